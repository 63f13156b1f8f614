import Derived.Test.YtcpggmdiojaalaaGreatDoorMAe
import Derived.IntWalk
import Derived.Test.YtcpggmdiojaalaaGreatDoorMAg
import Derived.Test.YtcpggmdiojaalaaGreatDoorMT
/- Layer 9: the contracts of the law's pick and Fit. -/
set_option linter.unusedVariables false
set_option linter.unusedSimpArgs false
namespace Go.Proofs.YtcpggmdiojaalaaGreatDoor.Sta
open Go.RowKit Js Lex Od

set_option maxHeartbeats 1000000 in
theorem pick9_any (c n : Int) (w : World) (hc0 : -9223372036854775808 ≤ c) (hc1 : c ≤ 9223372036854775807) (hn0 : 0 < n) (hn1 : n ≤ 9223372036854775807) :
    Calls Tryz.prog 40 #[.int .i64 c, .int .i64 n] w (fun e w' => e = .returned (.int .i64 (Quo.pickS c n)) ∧ w = w') := by
  by_cases hc : c < 0
  all_goals
    go_enter Tryz.func40, Tryz.ntmps40
    go_wp2
    go_ret
    refine ⟨Quo.ret_int ?_, rfl⟩
    unfold Quo.pickS
    first
      | (rw [if_pos hc, ← Int.neg_tmod, Int.tmod_eq_emod_of_nonneg (by omega)]; done)
      | rw [if_neg (by omega)]

set_option maxHeartbeats 16000000 in
set_option maxRecDepth 100000 in
theorem fit9_true (xh xb xo xu xn xq xa : Int) (xv : List UInt8) (xd : Bool) (w : World) (ih : i64B xh) (ib : i64B xb) (io : i64B xo) (iu : i64B xu) (in_ : i64B xn) (iq : i64B xq) (ia : i64B xa) (hv : xv.length ≤ Tp.reachN) :
    Calls Tryz.prog 33 #[Value.agg #[.int .i64 xh, .int .i64 xb, .string ⟨xv.toArray⟩, .int .i64 xo, .int .i64 xu, .bool true, .int .i64 xn, .int .i64 xq, .bool xd, .int .i64 xa]] w (Ret (Value.agg #[.int .i64 (numR xh), .int .i64 (numR xb), .string ⟨(Tp.fitL xv).toArray⟩, .int .i64 (numR xo), .int .i64 (numR xu), .bool (true || xd), .int .i64 (numR xn), .int .i64 (2 * Quo.pickS xq 500000001), .bool xd, .int .i64 (numR xa)]) w) := by
  have HMUL : Hid (IntKind.i64.wrap (2 * Quo.pickS xq 500000001) = 2 * Quo.pickS xq 500000001) := by
    have h1 := Quo.pickS_nonneg (c := xq) (n := 500000001) (by decide)
    have h2 := Quo.pickS_lt (c := xq) (n := 500000001) (by decide)
    exact IntWalk.i64_in _ (by omega)
  go_enter Tryz.func33, Tryz.ntmps33
  go_upto_region 2 with fail
  obtain ⟨w2, hw2⟩ : ∃ w2, ((w.alloc (.cells #[.int .i64 xh, .int .i64 xb, .string ⟨xv.toArray⟩, .int .i64 xo, .int .i64 xu, .bool true, .int .i64 xn, .int .i64 xq, .bool xd, .int .i64 xa] 53)).alloc (.cells #[.int .i64 0, .int .i64 0, .string ⟨#[]⟩, .int .i64 0, .int .i64 0, .bool false, .int .i64 0, .int .i64 0, .bool false, .int .i64 0] 53)) = w2 := ⟨_, rfl⟩
  have HBOX : Hid (w2.heap[w.heap.size]? = some (.cells #[.int .i64 xh, .int .i64 xb, .string ⟨xv.toArray⟩, .int .i64 xo, .int .i64 xu, .bool true, .int .i64 xn, .int .i64 xq, .bool xd, .int .i64 xa] 53 (0, 0))) := by show _ = _; rw [← hw2]; exact two_old _ _ _
  have HRES : Hid (w2.heap[w.heap.size + 1]? = some (.cells #[.int .i64 0, .int .i64 0, .string ⟨#[]⟩, .int .i64 0, .int .i64 0, .bool false, .int .i64 0, .int .i64 0, .bool false, .int .i64 0] 53 (0, 0))) := by show _ = _; rw [← hw2]; exact two_new _ _ _
  have HB2 : Hid (Below w.heap.size w w2) := by show Below _ _ _; rw [← hw2]; exact belowTwo _ _ _
  have hlb := Own.block_lt HBOX.out
  have hlr := Own.block_lt HRES.out
  have hs2 := HB2.out.size
  rw [hw2]
  clear hw2
  refine wp_region_grow mixed8 (fun zs => { tmps := List.toArray (Value.agg #[.int .i64 xh, .int .i64 xb, .string ⟨xv.toArray⟩, .int .i64 xo, .int .i64 xu, .bool true, .int .i64 xn, .int .i64 xq, .bool xd, .int .i64 xa] :: Value.pointer (some ⟨w.heap.size, 0, none⟩) :: Value.pointer (some ⟨w.heap.size + 1, 0, none⟩) :: Value.int .i64 (1000000001) :: zs.getD 0 undef :: zs.getD 1 undef :: zs.getD 2 undef :: zs.getD 3 undef :: zs.getD 4 undef :: zs.getD 5 undef :: zs.getD 6 undef :: zs.getD 7 undef :: zs.getD 8 undef :: zs.getD 9 undef :: zs.getD 10 undef :: zs.getD 11 undef :: zs.getD 12 undef :: zs.getD 13 undef :: zs.getD 14 undef :: zs.getD 15 undef :: zs.getD 16 undef :: zs.getD 17 undef :: zs.getD 18 undef :: zs.getD 19 undef :: zs.getD 20 undef :: zs.getD 21 undef :: zs.getD 22 undef :: zs.getD 23 undef :: zs.getD 24 undef :: zs.getD 25 undef :: zs.getD 26 undef :: zs.getD 27 undef :: zs.getD 28 undef :: zs.getD 29 undef :: zs.getD 30 undef :: zs.getD 31 undef :: zs.getD 32 undef :: zs.getD 33 undef :: zs.getD 34 undef :: zs.getD 35 undef :: zs.getD 36 undef :: zs.getD 37 undef :: zs.getD 38 undef :: zs.getD 39 undef :: []), defers := [] }) [(fun z _ => z = Value.pointer (some ⟨w.heap.size, 0, none⟩)), (fun z _ => z = Value.int .i64 (xh)), (fun z _ => z = Value.int .i64 (1000000001)), (fun z _ => z = Value.int .i64 (numR xh)), (fun z _ => z = Value.pointer (some ⟨w.heap.size, 1, none⟩)), (fun z _ => z = Value.int .i64 (xb)), (fun z _ => z = Value.int .i64 (1000000001)), (fun z _ => z = Value.int .i64 (numR xb)), (fun z _ => z = Value.pointer (some ⟨w.heap.size, 2, none⟩)), (fun z _ => z = Value.string ⟨xv.toArray⟩), (fun z _ => z = Value.string ⟨(Tp.fitL xv).toArray⟩), (fun z _ => z = Value.pointer (some ⟨w.heap.size, 3, none⟩)), (fun z _ => z = Value.int .i64 (xo)), (fun z _ => z = Value.int .i64 (1000000001)), (fun z _ => z = Value.int .i64 (numR xo)), (fun z _ => z = Value.pointer (some ⟨w.heap.size, 4, none⟩)), (fun z _ => z = Value.int .i64 (xu)), (fun z _ => z = Value.int .i64 (1000000001)), (fun z _ => z = Value.int .i64 (numR xu)), (fun z _ => z = Value.pointer (some ⟨w.heap.size, 5, none⟩)), (fun z _ => z = Value.bool true), (fun z _ => z = Value.bool true), (fun z _ => z = undef), (fun z _ => z = undef), (fun z _ => z = Value.bool (true || xd)), (fun z _ => z = Value.pointer (some ⟨w.heap.size, 6, none⟩)), (fun z _ => z = Value.int .i64 (xn)), (fun z _ => z = Value.int .i64 (1000000001)), (fun z _ => z = Value.int .i64 (numR xn)), (fun z _ => z = Value.pointer (some ⟨w.heap.size, 7, none⟩)), (fun z _ => z = Value.int .i64 (xq)), (fun z _ => z = Value.int .i64 (Quo.pickS xq 500000001)), (fun z _ => z = Value.int .i64 (2 * Quo.pickS xq 500000001)), (fun z _ => z = Value.pointer (some ⟨w.heap.size, 8, none⟩)), (fun z _ => z = Value.bool xd), (fun z _ => z = Value.pointer (some ⟨w.heap.size, 9, none⟩)), (fun z _ => z = Value.int .i64 (xa)), (fun z _ => z = Value.int .i64 (1000000001)), (fun z _ => z = Value.int .i64 (numR xa)), (fun z _ => z = Value.agg #[.int .i64 (numR xh), .int .i64 (numR xb), .string ⟨(Tp.fitL xv).toArray⟩, .int .i64 (numR xo), .int .i64 (numR xu), .bool (true || xd), .int .i64 (numR xn), .int .i64 (2 * Quo.pickS xq 500000001), .bool xd, .int .i64 (numR xa)])] (List.replicate 40 undef) rfl rfl rfl ?_ (by kernel_rfl) (by kernel_rfl) ?_ ?_
  · intro p hp
    simp only [List.mem_cons, List.not_mem_nil, or_false] at hp
    rcases hp with rfl | rfl | rfl | rfl | rfl | rfl | rfl | rfl | rfl | rfl | rfl | rfl | rfl | rfl | rfl | rfl | rfl | rfl | rfl | rfl | rfl | rfl | rfl | rfl | rfl | rfl | rfl | rfl | rfl | rfl | rfl | rfl | rfl | rfl | rfl | rfl | rfl | rfl | rfl | rfl
    all_goals exact stable_eq _
  · intro i hi zs l wz o hz hF ho hpre
    have hi' : i < 40 := hi
    match zs, (show zs.length = 40 from hz) with
    | z0 :: z1 :: z2 :: z3 :: z4 :: z5 :: z6 :: z7 :: z8 :: z9 :: z10 :: z11 :: z12 :: z13 :: z14 :: z15 :: z16 :: z17 :: z18 :: z19 :: z20 :: z21 :: z22 :: z23 :: z24 :: z25 :: z26 :: z27 :: z28 :: z29 :: z30 :: z31 :: z32 :: z33 :: z34 :: z35 :: z36 :: z37 :: z38 :: z39 :: [], _ =>
      clear hz hi
      change wpOp _ _ _ _ _ { tmps := List.toArray (Value.agg #[.int .i64 xh, .int .i64 xb, .string ⟨xv.toArray⟩, .int .i64 xo, .int .i64 xu, .bool true, .int .i64 xn, .int .i64 xq, .bool xd, .int .i64 xa] :: Value.pointer (some ⟨w.heap.size, 0, none⟩) :: Value.pointer (some ⟨w.heap.size + 1, 0, none⟩) :: Value.int .i64 (1000000001) :: z0 :: z1 :: z2 :: z3 :: z4 :: z5 :: z6 :: z7 :: z8 :: z9 :: z10 :: z11 :: z12 :: z13 :: z14 :: z15 :: z16 :: z17 :: z18 :: z19 :: z20 :: z21 :: z22 :: z23 :: z24 :: z25 :: z26 :: z27 :: z28 :: z29 :: z30 :: z31 :: z32 :: z33 :: z34 :: z35 :: z36 :: z37 :: z38 :: z39 :: []), defers := [] } _
      have hc : i = 0 ∨ i = 1 ∨ i = 2 ∨ i = 3 ∨ i = 4 ∨ i = 5 ∨ i = 6 ∨ i = 7 ∨ i = 8 ∨ i = 9 ∨ i = 10 ∨ i = 11 ∨ i = 12 ∨ i = 13 ∨ i = 14 ∨ i = 15 ∨ i = 16 ∨ i = 17 ∨ i = 18 ∨ i = 19 ∨ i = 20 ∨ i = 21 ∨ i = 22 ∨ i = 23 ∨ i = 24 ∨ i = 25 ∨ i = 26 ∨ i = 27 ∨ i = 28 ∨ i = 29 ∨ i = 30 ∨ i = 31 ∨ i = 32 ∨ i = 33 ∨ i = 34 ∨ i = 35 ∨ i = 36 ∨ i = 37 ∨ i = 38 ∨ i = 39 := by omega
      clear hi'
      rcases hc with rfl | rfl | rfl | rfl | rfl | rfl | rfl | rfl | rfl | rfl | rfl | rfl | rfl | rfl | rfl | rfl | rfl | rfl | rfl | rfl | rfl | rfl | rfl | rfl | rfl | rfl | rfl | rfl | rfl | rfl | rfl | rfl | rfl | rfl | rfl | rfl | rfl | rfl | rfl | rfl
      · clear ho hpre
        refine wpOp_here rfl (fun K' hK => ?_)
        go_simp
        exact hK _ _ ⟨_, rfl, Below.refl _ _, fun p hp => by cases (show some (fun z _ => z = Value.pointer (some ⟨w.heap.size, 0, none⟩)) = some p from hp); exact rfl⟩
      · obtain ⟨c0, c1, c2, c3, c4, c5, c6, c7, c8, c9⟩ := ten_of ((hF.bel.block _ hlb).trans HBOX.out)
        have p0 := hF.fact 0 _ _ rfl rfl (hpre ⟨0, .data⟩ (by cases ho; simp) rfl)
        subst p0
        clear ho hpre
        refine wpOp_here rfl (fun K' hK => ?_)
        go_simp
        exact hK _ _ ⟨_, rfl, Below.refl _ _, fun p hp => by cases (show some (fun z _ => z = Value.int .i64 (xh)) = some p from hp); exact rfl⟩
      · clear ho hpre
        refine wpOp_here rfl (fun K' hK => ?_)
        go_simp
        exact hK _ _ ⟨_, rfl, Below.refl _ _, fun p hp => by cases (show some (fun z _ => z = Value.int .i64 (1000000001)) = some p from hp); exact rfl⟩
      · have p1 := hF.fact 1 _ _ rfl rfl (hpre ⟨1, .data⟩ (by cases ho; simp) rfl)
        subst p1
        have p2 := hF.fact 2 _ _ rfl rfl (hpre ⟨2, .data⟩ (by cases ho; simp) rfl)
        subst p2
        clear ho hpre
        refine wpOp_here rfl (fun K' hK => ?_)
        go_simp
        refine (pick9_any xh 1000000001 wz ih.1 ih.2 (by decide) (by decide)).mono ?_
        rintro e6 w6 ⟨rfl, rfl⟩
        exact hK _ _ ⟨_, rfl, Below.refl _ _, fun p hp => by cases (show some (fun z _ => z = Value.int .i64 (numR xh)) = some p from hp); exact rfl⟩
      · clear ho hpre
        refine wpOp_here rfl (fun K' hK => ?_)
        go_simp
        exact hK _ _ ⟨_, rfl, Below.refl _ _, fun p hp => by cases (show some (fun z _ => z = Value.pointer (some ⟨w.heap.size, 1, none⟩)) = some p from hp); exact rfl⟩
      · obtain ⟨c0, c1, c2, c3, c4, c5, c6, c7, c8, c9⟩ := ten_of ((hF.bel.block _ hlb).trans HBOX.out)
        have p4 := hF.fact 4 _ _ rfl rfl (hpre ⟨4, .data⟩ (by cases ho; simp) rfl)
        subst p4
        clear ho hpre
        refine wpOp_here rfl (fun K' hK => ?_)
        go_simp
        exact hK _ _ ⟨_, rfl, Below.refl _ _, fun p hp => by cases (show some (fun z _ => z = Value.int .i64 (xb)) = some p from hp); exact rfl⟩
      · clear ho hpre
        refine wpOp_here rfl (fun K' hK => ?_)
        go_simp
        exact hK _ _ ⟨_, rfl, Below.refl _ _, fun p hp => by cases (show some (fun z _ => z = Value.int .i64 (1000000001)) = some p from hp); exact rfl⟩
      · have p5 := hF.fact 5 _ _ rfl rfl (hpre ⟨5, .data⟩ (by cases ho; simp) rfl)
        subst p5
        have p6 := hF.fact 6 _ _ rfl rfl (hpre ⟨6, .data⟩ (by cases ho; simp) rfl)
        subst p6
        clear ho hpre
        refine wpOp_here rfl (fun K' hK => ?_)
        go_simp
        refine (pick9_any xb 1000000001 wz ib.1 ib.2 (by decide) (by decide)).mono ?_
        rintro e6 w6 ⟨rfl, rfl⟩
        exact hK _ _ ⟨_, rfl, Below.refl _ _, fun p hp => by cases (show some (fun z _ => z = Value.int .i64 (numR xb)) = some p from hp); exact rfl⟩
      · clear ho hpre
        refine wpOp_here rfl (fun K' hK => ?_)
        go_simp
        exact hK _ _ ⟨_, rfl, Below.refl _ _, fun p hp => by cases (show some (fun z _ => z = Value.pointer (some ⟨w.heap.size, 2, none⟩)) = some p from hp); exact rfl⟩
      · obtain ⟨c0, c1, c2, c3, c4, c5, c6, c7, c8, c9⟩ := ten_of ((hF.bel.block _ hlb).trans HBOX.out)
        have p8 := hF.fact 8 _ _ rfl rfl (hpre ⟨8, .data⟩ (by cases ho; simp) rfl)
        subst p8
        clear ho hpre
        refine wpOp_here rfl (fun K' hK => ?_)
        go_simp
        exact hK _ _ ⟨_, rfl, Below.refl _ _, fun p hp => by cases (show some (fun z _ => z = Value.string ⟨xv.toArray⟩) = some p from hp); exact rfl⟩
      · have p9 := hF.fact 9 _ _ rfl rfl (hpre ⟨9, .data⟩ (by cases ho; simp) rfl)
        subst p9
        clear ho hpre
        refine wpOp_here rfl (fun K' hK => ?_)
        go_simp
        refine (Tp.Fit_any xv wz hv).mono ?_
        rintro e6 w6 ⟨rfl, hb6⟩
        exact hK _ _ ⟨_, rfl, hb6, fun p hp => by cases (show some (fun z _ => z = Value.string ⟨(Tp.fitL xv).toArray⟩) = some p from hp); exact rfl⟩
      · clear ho hpre
        refine wpOp_here rfl (fun K' hK => ?_)
        go_simp
        exact hK _ _ ⟨_, rfl, Below.refl _ _, fun p hp => by cases (show some (fun z _ => z = Value.pointer (some ⟨w.heap.size, 3, none⟩)) = some p from hp); exact rfl⟩
      · obtain ⟨c0, c1, c2, c3, c4, c5, c6, c7, c8, c9⟩ := ten_of ((hF.bel.block _ hlb).trans HBOX.out)
        have p11 := hF.fact 11 _ _ rfl rfl (hpre ⟨11, .data⟩ (by cases ho; simp) rfl)
        subst p11
        clear ho hpre
        refine wpOp_here rfl (fun K' hK => ?_)
        go_simp
        exact hK _ _ ⟨_, rfl, Below.refl _ _, fun p hp => by cases (show some (fun z _ => z = Value.int .i64 (xo)) = some p from hp); exact rfl⟩
      · clear ho hpre
        refine wpOp_here rfl (fun K' hK => ?_)
        go_simp
        exact hK _ _ ⟨_, rfl, Below.refl _ _, fun p hp => by cases (show some (fun z _ => z = Value.int .i64 (1000000001)) = some p from hp); exact rfl⟩
      · have p12 := hF.fact 12 _ _ rfl rfl (hpre ⟨12, .data⟩ (by cases ho; simp) rfl)
        subst p12
        have p13 := hF.fact 13 _ _ rfl rfl (hpre ⟨13, .data⟩ (by cases ho; simp) rfl)
        subst p13
        clear ho hpre
        refine wpOp_here rfl (fun K' hK => ?_)
        go_simp
        refine (pick9_any xo 1000000001 wz io.1 io.2 (by decide) (by decide)).mono ?_
        rintro e6 w6 ⟨rfl, rfl⟩
        exact hK _ _ ⟨_, rfl, Below.refl _ _, fun p hp => by cases (show some (fun z _ => z = Value.int .i64 (numR xo)) = some p from hp); exact rfl⟩
      · clear ho hpre
        refine wpOp_here rfl (fun K' hK => ?_)
        go_simp
        exact hK _ _ ⟨_, rfl, Below.refl _ _, fun p hp => by cases (show some (fun z _ => z = Value.pointer (some ⟨w.heap.size, 4, none⟩)) = some p from hp); exact rfl⟩
      · obtain ⟨c0, c1, c2, c3, c4, c5, c6, c7, c8, c9⟩ := ten_of ((hF.bel.block _ hlb).trans HBOX.out)
        have p15 := hF.fact 15 _ _ rfl rfl (hpre ⟨15, .data⟩ (by cases ho; simp) rfl)
        subst p15
        clear ho hpre
        refine wpOp_here rfl (fun K' hK => ?_)
        go_simp
        exact hK _ _ ⟨_, rfl, Below.refl _ _, fun p hp => by cases (show some (fun z _ => z = Value.int .i64 (xu)) = some p from hp); exact rfl⟩
      · clear ho hpre
        refine wpOp_here rfl (fun K' hK => ?_)
        go_simp
        exact hK _ _ ⟨_, rfl, Below.refl _ _, fun p hp => by cases (show some (fun z _ => z = Value.int .i64 (1000000001)) = some p from hp); exact rfl⟩
      · have p16 := hF.fact 16 _ _ rfl rfl (hpre ⟨16, .data⟩ (by cases ho; simp) rfl)
        subst p16
        have p17 := hF.fact 17 _ _ rfl rfl (hpre ⟨17, .data⟩ (by cases ho; simp) rfl)
        subst p17
        clear ho hpre
        refine wpOp_here rfl (fun K' hK => ?_)
        go_simp
        refine (pick9_any xu 1000000001 wz iu.1 iu.2 (by decide) (by decide)).mono ?_
        rintro e6 w6 ⟨rfl, rfl⟩
        exact hK _ _ ⟨_, rfl, Below.refl _ _, fun p hp => by cases (show some (fun z _ => z = Value.int .i64 (numR xu)) = some p from hp); exact rfl⟩
      · clear ho hpre
        refine wpOp_here rfl (fun K' hK => ?_)
        go_simp
        exact hK _ _ ⟨_, rfl, Below.refl _ _, fun p hp => by cases (show some (fun z _ => z = Value.pointer (some ⟨w.heap.size, 5, none⟩)) = some p from hp); exact rfl⟩
      · obtain ⟨c0, c1, c2, c3, c4, c5, c6, c7, c8, c9⟩ := ten_of ((hF.bel.block _ hlb).trans HBOX.out)
        have p19 := hF.fact 19 _ _ rfl rfl (hpre ⟨19, .data⟩ (by cases ho; simp) rfl)
        subst p19
        clear ho hpre
        refine wpOp_here rfl (fun K' hK => ?_)
        go_simp
        exact hK _ _ ⟨_, rfl, Below.refl _ _, fun p hp => by cases (show some (fun z _ => z = Value.bool true) = some p from hp); exact rfl⟩
      · have p20 := hF.fact 20 _ _ rfl rfl (hpre ⟨20, .data⟩ (by cases ho; simp) rfl)
        subst p20
        clear ho hpre
        refine wpOp_here rfl (fun K' hK => ?_)
        go_simp
        exact hK _ _ ⟨_, rfl, Below.refl _ _, fun p hp => by cases (show some (fun z _ => z = Value.bool true) = some p from hp); exact rfl⟩
      · have p21 := hF.fact 21 _ _ rfl rfl (hpre ⟨21, .guard⟩ (by cases ho; simp) rfl)
        subst p21
        clear ho hpre
        refine wpOp_here rfl (fun K' hK => ?_)
        go_simp
        exact hK _ _ ⟨_, rfl, Below.refl _ _, fun p hp => by cases (show some (fun z _ => z = undef) = some p from hp); exact rfl⟩
      · have p21 := hF.fact 21 _ _ rfl rfl (hpre ⟨21, .guard⟩ (by cases ho; simp) rfl)
        subst p21
        clear ho hpre
        refine wpOp_here rfl (fun K' hK => ?_)
        go_simp
        exact hK _ _ ⟨_, rfl, Below.refl _ _, fun p hp => by cases (show some (fun z _ => z = undef) = some p from hp); exact rfl⟩
      · have p21 := hF.fact 21 _ _ rfl rfl (hpre ⟨21, .data⟩ (by cases ho; simp) rfl)
        subst p21
        clear ho hpre
        refine wpOp_here rfl (fun K' hK => ?_)
        go_simp
        exact hK _ _ ⟨_, rfl, Below.refl _ _, fun p hp => by cases (show some (fun z _ => z = Value.bool (true || xd)) = some p from hp); exact rfl⟩
      · clear ho hpre
        refine wpOp_here rfl (fun K' hK => ?_)
        go_simp
        exact hK _ _ ⟨_, rfl, Below.refl _ _, fun p hp => by cases (show some (fun z _ => z = Value.pointer (some ⟨w.heap.size, 6, none⟩)) = some p from hp); exact rfl⟩
      · obtain ⟨c0, c1, c2, c3, c4, c5, c6, c7, c8, c9⟩ := ten_of ((hF.bel.block _ hlb).trans HBOX.out)
        have p25 := hF.fact 25 _ _ rfl rfl (hpre ⟨25, .data⟩ (by cases ho; simp) rfl)
        subst p25
        clear ho hpre
        refine wpOp_here rfl (fun K' hK => ?_)
        go_simp
        exact hK _ _ ⟨_, rfl, Below.refl _ _, fun p hp => by cases (show some (fun z _ => z = Value.int .i64 (xn)) = some p from hp); exact rfl⟩
      · clear ho hpre
        refine wpOp_here rfl (fun K' hK => ?_)
        go_simp
        exact hK _ _ ⟨_, rfl, Below.refl _ _, fun p hp => by cases (show some (fun z _ => z = Value.int .i64 (1000000001)) = some p from hp); exact rfl⟩
      · have p26 := hF.fact 26 _ _ rfl rfl (hpre ⟨26, .data⟩ (by cases ho; simp) rfl)
        subst p26
        have p27 := hF.fact 27 _ _ rfl rfl (hpre ⟨27, .data⟩ (by cases ho; simp) rfl)
        subst p27
        clear ho hpre
        refine wpOp_here rfl (fun K' hK => ?_)
        go_simp
        refine (pick9_any xn 1000000001 wz in_.1 in_.2 (by decide) (by decide)).mono ?_
        rintro e6 w6 ⟨rfl, rfl⟩
        exact hK _ _ ⟨_, rfl, Below.refl _ _, fun p hp => by cases (show some (fun z _ => z = Value.int .i64 (numR xn)) = some p from hp); exact rfl⟩
      · clear ho hpre
        refine wpOp_here rfl (fun K' hK => ?_)
        go_simp
        exact hK _ _ ⟨_, rfl, Below.refl _ _, fun p hp => by cases (show some (fun z _ => z = Value.pointer (some ⟨w.heap.size, 7, none⟩)) = some p from hp); exact rfl⟩
      · obtain ⟨c0, c1, c2, c3, c4, c5, c6, c7, c8, c9⟩ := ten_of ((hF.bel.block _ hlb).trans HBOX.out)
        have p29 := hF.fact 29 _ _ rfl rfl (hpre ⟨29, .data⟩ (by cases ho; simp) rfl)
        subst p29
        clear ho hpre
        refine wpOp_here rfl (fun K' hK => ?_)
        go_simp
        exact hK _ _ ⟨_, rfl, Below.refl _ _, fun p hp => by cases (show some (fun z _ => z = Value.int .i64 (xq)) = some p from hp); exact rfl⟩
      · have p30 := hF.fact 30 _ _ rfl rfl (hpre ⟨30, .data⟩ (by cases ho; simp) rfl)
        subst p30
        clear ho hpre
        refine wpOp_here rfl (fun K' hK => ?_)
        go_simp
        refine (pick9_any xq 500000001 wz iq.1 iq.2 (by decide) (by decide)).mono ?_
        rintro e6 w6 ⟨rfl, rfl⟩
        exact hK _ _ ⟨_, rfl, Below.refl _ _, fun p hp => by cases (show some (fun z _ => z = Value.int .i64 (Quo.pickS xq 500000001)) = some p from hp); exact rfl⟩
      · have p31 := hF.fact 31 _ _ rfl rfl (hpre ⟨31, .data⟩ (by cases ho; simp) rfl)
        subst p31
        clear ho hpre
        refine wpOp_here rfl (fun K' hK => ?_)
        go_simp
        try rw [HMUL.out]
        exact hK _ _ ⟨_, rfl, Below.refl _ _, fun p hp => by cases (show some (fun z _ => z = Value.int .i64 (2 * Quo.pickS xq 500000001)) = some p from hp); exact rfl⟩
      · clear ho hpre
        refine wpOp_here rfl (fun K' hK => ?_)
        go_simp
        exact hK _ _ ⟨_, rfl, Below.refl _ _, fun p hp => by cases (show some (fun z _ => z = Value.pointer (some ⟨w.heap.size, 8, none⟩)) = some p from hp); exact rfl⟩
      · obtain ⟨c0, c1, c2, c3, c4, c5, c6, c7, c8, c9⟩ := ten_of ((hF.bel.block _ hlb).trans HBOX.out)
        have p33 := hF.fact 33 _ _ rfl rfl (hpre ⟨33, .data⟩ (by cases ho; simp) rfl)
        subst p33
        clear ho hpre
        refine wpOp_here rfl (fun K' hK => ?_)
        go_simp
        exact hK _ _ ⟨_, rfl, Below.refl _ _, fun p hp => by cases (show some (fun z _ => z = Value.bool xd) = some p from hp); exact rfl⟩
      · clear ho hpre
        refine wpOp_here rfl (fun K' hK => ?_)
        go_simp
        exact hK _ _ ⟨_, rfl, Below.refl _ _, fun p hp => by cases (show some (fun z _ => z = Value.pointer (some ⟨w.heap.size, 9, none⟩)) = some p from hp); exact rfl⟩
      · obtain ⟨c0, c1, c2, c3, c4, c5, c6, c7, c8, c9⟩ := ten_of ((hF.bel.block _ hlb).trans HBOX.out)
        have p35 := hF.fact 35 _ _ rfl rfl (hpre ⟨35, .data⟩ (by cases ho; simp) rfl)
        subst p35
        clear ho hpre
        refine wpOp_here rfl (fun K' hK => ?_)
        go_simp
        exact hK _ _ ⟨_, rfl, Below.refl _ _, fun p hp => by cases (show some (fun z _ => z = Value.int .i64 (xa)) = some p from hp); exact rfl⟩
      · clear ho hpre
        refine wpOp_here rfl (fun K' hK => ?_)
        go_simp
        exact hK _ _ ⟨_, rfl, Below.refl _ _, fun p hp => by cases (show some (fun z _ => z = Value.int .i64 (1000000001)) = some p from hp); exact rfl⟩
      · have p36 := hF.fact 36 _ _ rfl rfl (hpre ⟨36, .data⟩ (by cases ho; simp) rfl)
        subst p36
        have p37 := hF.fact 37 _ _ rfl rfl (hpre ⟨37, .data⟩ (by cases ho; simp) rfl)
        subst p37
        clear ho hpre
        refine wpOp_here rfl (fun K' hK => ?_)
        go_simp
        refine (pick9_any xa 1000000001 wz ia.1 ia.2 (by decide) (by decide)).mono ?_
        rintro e6 w6 ⟨rfl, rfl⟩
        exact hK _ _ ⟨_, rfl, Below.refl _ _, fun p hp => by cases (show some (fun z _ => z = Value.int .i64 (numR xa)) = some p from hp); exact rfl⟩
      · have p3 := hF.fact 3 _ _ rfl rfl (hpre ⟨3, .data⟩ (by cases ho; simp) rfl)
        subst p3
        have p7 := hF.fact 7 _ _ rfl rfl (hpre ⟨7, .data⟩ (by cases ho; simp) rfl)
        subst p7
        have p10 := hF.fact 10 _ _ rfl rfl (hpre ⟨10, .data⟩ (by cases ho; simp) rfl)
        subst p10
        have p14 := hF.fact 14 _ _ rfl rfl (hpre ⟨14, .data⟩ (by cases ho; simp) rfl)
        subst p14
        have p18 := hF.fact 18 _ _ rfl rfl (hpre ⟨18, .data⟩ (by cases ho; simp) rfl)
        subst p18
        have p24 := hF.fact 24 _ _ rfl rfl (hpre ⟨24, .data⟩ (by cases ho; simp) rfl)
        subst p24
        have p28 := hF.fact 28 _ _ rfl rfl (hpre ⟨28, .data⟩ (by cases ho; simp) rfl)
        subst p28
        have p32 := hF.fact 32 _ _ rfl rfl (hpre ⟨32, .data⟩ (by cases ho; simp) rfl)
        subst p32
        have p34 := hF.fact 34 _ _ rfl rfl (hpre ⟨34, .data⟩ (by cases ho; simp) rfl)
        subst p34
        have p38 := hF.fact 38 _ _ rfl rfl (hpre ⟨38, .data⟩ (by cases ho; simp) rfl)
        subst p38
        clear ho hpre
        refine wpOp_here rfl (fun K' hK => ?_)
        go_simp
        exact hK _ _ ⟨_, rfl, Below.refl _ _, fun p hp => by cases (show some (fun z _ => z = Value.agg #[.int .i64 (numR xh), .int .i64 (numR xb), .string ⟨(Tp.fitL xv).toArray⟩, .int .i64 (numR xo), .int .i64 (numR xu), .bool (true || xd), .int .i64 (numR xn), .int .i64 (2 * Quo.pickS xq 500000001), .bool xd, .int .i64 (numR xa)]) = some p from hp); exact rfl⟩
  · intro zs wz hz hB hev
    match zs, (show zs.length = 40 from hz) with
    | z0 :: z1 :: z2 :: z3 :: z4 :: z5 :: z6 :: z7 :: z8 :: z9 :: z10 :: z11 :: z12 :: z13 :: z14 :: z15 :: z16 :: z17 :: z18 :: z19 :: z20 :: z21 :: z22 :: z23 :: z24 :: z25 :: z26 :: z27 :: z28 :: z29 :: z30 :: z31 :: z32 :: z33 :: z34 :: z35 :: z36 :: z37 :: z38 :: z39 :: [], _ =>
      have p39 := hev 39 _ _ rfl rfl
      clear hev hz
      change wpOp _ _ _ _ _ { tmps := List.toArray (Value.agg #[.int .i64 xh, .int .i64 xb, .string ⟨xv.toArray⟩, .int .i64 xo, .int .i64 xu, .bool true, .int .i64 xn, .int .i64 xq, .bool xd, .int .i64 xa] :: Value.pointer (some ⟨w.heap.size, 0, none⟩) :: Value.pointer (some ⟨w.heap.size + 1, 0, none⟩) :: Value.int .i64 (1000000001) :: z0 :: z1 :: z2 :: z3 :: z4 :: z5 :: z6 :: z7 :: z8 :: z9 :: z10 :: z11 :: z12 :: z13 :: z14 :: z15 :: z16 :: z17 :: z18 :: z19 :: z20 :: z21 :: z22 :: z23 :: z24 :: z25 :: z26 :: z27 :: z28 :: z29 :: z30 :: z31 :: z32 :: z33 :: z34 :: z35 :: z36 :: z37 :: z38 :: z39 :: []), defers := [] } _
      subst p39
      have y0 := (hB.block _ hlr).trans HRES.out
      obtain ⟨c0, c1, c2, c3, c4, c5, c6, c7, c8, c9⟩ := ten_of y0
      obtain ⟨g0, g1, g2, g3, g4, g5, g6, g7, g8, g9⟩ := free_ten y0
      refine wpOp_here rfl (fun K' hK => ?_)
      go_simp
      refine hK _ _ ?_
      go_wp2_with fail
      refine bodyPost_ret (v := Value.agg #[.int .i64 (numR xh), .int .i64 (numR xb), .string ⟨(Tp.fitL xv).toArray⟩, .int .i64 (numR xo), .int .i64 (numR xu), .bool (true || xd), .int .i64 (numR xn), .int .i64 (2 * Quo.pickS xq 500000001), .bool xd, .int .i64 (numR xa)]) (by simp [results, Tryz.results33, go_sem, c0, c1, c2, c3, c4, c5, c6, c7, c8, c9]) rfl ?_
      exact ⟨rfl, below_ten (HB2.out.trans (hB.mono hs2)) (by omega) _ _ _ _ _ _ _ _ _ _⟩
set_option maxHeartbeats 16000000 in
set_option maxRecDepth 100000 in
theorem fit9_false (xh xb xo xu xn xq xa : Int) (xv : List UInt8) (xd : Bool) (w : World) (ih : i64B xh) (ib : i64B xb) (io : i64B xo) (iu : i64B xu) (in_ : i64B xn) (iq : i64B xq) (ia : i64B xa) (hv : xv.length ≤ Tp.reachN) :
    Calls Tryz.prog 33 #[Value.agg #[.int .i64 xh, .int .i64 xb, .string ⟨xv.toArray⟩, .int .i64 xo, .int .i64 xu, .bool false, .int .i64 xn, .int .i64 xq, .bool xd, .int .i64 xa]] w (Ret (Value.agg #[.int .i64 (numR xh), .int .i64 (numR xb), .string ⟨(Tp.fitL xv).toArray⟩, .int .i64 (numR xo), .int .i64 (numR xu), .bool (false || xd), .int .i64 (numR xn), .int .i64 (2 * Quo.pickS xq 500000001), .bool xd, .int .i64 (numR xa)]) w) := by
  have HMUL : Hid (IntKind.i64.wrap (2 * Quo.pickS xq 500000001) = 2 * Quo.pickS xq 500000001) := by
    have h1 := Quo.pickS_nonneg (c := xq) (n := 500000001) (by decide)
    have h2 := Quo.pickS_lt (c := xq) (n := 500000001) (by decide)
    exact IntWalk.i64_in _ (by omega)
  go_enter Tryz.func33, Tryz.ntmps33
  go_upto_region 2 with fail
  obtain ⟨w2, hw2⟩ : ∃ w2, ((w.alloc (.cells #[.int .i64 xh, .int .i64 xb, .string ⟨xv.toArray⟩, .int .i64 xo, .int .i64 xu, .bool false, .int .i64 xn, .int .i64 xq, .bool xd, .int .i64 xa] 53)).alloc (.cells #[.int .i64 0, .int .i64 0, .string ⟨#[]⟩, .int .i64 0, .int .i64 0, .bool false, .int .i64 0, .int .i64 0, .bool false, .int .i64 0] 53)) = w2 := ⟨_, rfl⟩
  have HBOX : Hid (w2.heap[w.heap.size]? = some (.cells #[.int .i64 xh, .int .i64 xb, .string ⟨xv.toArray⟩, .int .i64 xo, .int .i64 xu, .bool false, .int .i64 xn, .int .i64 xq, .bool xd, .int .i64 xa] 53 (0, 0))) := by show _ = _; rw [← hw2]; exact two_old _ _ _
  have HRES : Hid (w2.heap[w.heap.size + 1]? = some (.cells #[.int .i64 0, .int .i64 0, .string ⟨#[]⟩, .int .i64 0, .int .i64 0, .bool false, .int .i64 0, .int .i64 0, .bool false, .int .i64 0] 53 (0, 0))) := by show _ = _; rw [← hw2]; exact two_new _ _ _
  have HB2 : Hid (Below w.heap.size w w2) := by show Below _ _ _; rw [← hw2]; exact belowTwo _ _ _
  have hlb := Own.block_lt HBOX.out
  have hlr := Own.block_lt HRES.out
  have hs2 := HB2.out.size
  rw [hw2]
  clear hw2
  refine wp_region_grow mixed8 (fun zs => { tmps := List.toArray (Value.agg #[.int .i64 xh, .int .i64 xb, .string ⟨xv.toArray⟩, .int .i64 xo, .int .i64 xu, .bool false, .int .i64 xn, .int .i64 xq, .bool xd, .int .i64 xa] :: Value.pointer (some ⟨w.heap.size, 0, none⟩) :: Value.pointer (some ⟨w.heap.size + 1, 0, none⟩) :: Value.int .i64 (1000000001) :: zs.getD 0 undef :: zs.getD 1 undef :: zs.getD 2 undef :: zs.getD 3 undef :: zs.getD 4 undef :: zs.getD 5 undef :: zs.getD 6 undef :: zs.getD 7 undef :: zs.getD 8 undef :: zs.getD 9 undef :: zs.getD 10 undef :: zs.getD 11 undef :: zs.getD 12 undef :: zs.getD 13 undef :: zs.getD 14 undef :: zs.getD 15 undef :: zs.getD 16 undef :: zs.getD 17 undef :: zs.getD 18 undef :: zs.getD 19 undef :: zs.getD 20 undef :: zs.getD 21 undef :: zs.getD 22 undef :: zs.getD 23 undef :: zs.getD 24 undef :: zs.getD 25 undef :: zs.getD 26 undef :: zs.getD 27 undef :: zs.getD 28 undef :: zs.getD 29 undef :: zs.getD 30 undef :: zs.getD 31 undef :: zs.getD 32 undef :: zs.getD 33 undef :: zs.getD 34 undef :: zs.getD 35 undef :: zs.getD 36 undef :: zs.getD 37 undef :: zs.getD 38 undef :: zs.getD 39 undef :: []), defers := [] }) [(fun z _ => z = Value.pointer (some ⟨w.heap.size, 0, none⟩)), (fun z _ => z = Value.int .i64 (xh)), (fun z _ => z = Value.int .i64 (1000000001)), (fun z _ => z = Value.int .i64 (numR xh)), (fun z _ => z = Value.pointer (some ⟨w.heap.size, 1, none⟩)), (fun z _ => z = Value.int .i64 (xb)), (fun z _ => z = Value.int .i64 (1000000001)), (fun z _ => z = Value.int .i64 (numR xb)), (fun z _ => z = Value.pointer (some ⟨w.heap.size, 2, none⟩)), (fun z _ => z = Value.string ⟨xv.toArray⟩), (fun z _ => z = Value.string ⟨(Tp.fitL xv).toArray⟩), (fun z _ => z = Value.pointer (some ⟨w.heap.size, 3, none⟩)), (fun z _ => z = Value.int .i64 (xo)), (fun z _ => z = Value.int .i64 (1000000001)), (fun z _ => z = Value.int .i64 (numR xo)), (fun z _ => z = Value.pointer (some ⟨w.heap.size, 4, none⟩)), (fun z _ => z = Value.int .i64 (xu)), (fun z _ => z = Value.int .i64 (1000000001)), (fun z _ => z = Value.int .i64 (numR xu)), (fun z _ => z = Value.pointer (some ⟨w.heap.size, 5, none⟩)), (fun z _ => z = Value.bool false), (fun z _ => z = Value.bool false), (fun z _ => z = Value.pointer (some ⟨w.heap.size, 8, none⟩)), (fun z _ => z = Value.bool xd), (fun z _ => z = Value.bool (false || xd)), (fun z _ => z = Value.pointer (some ⟨w.heap.size, 6, none⟩)), (fun z _ => z = Value.int .i64 (xn)), (fun z _ => z = Value.int .i64 (1000000001)), (fun z _ => z = Value.int .i64 (numR xn)), (fun z _ => z = Value.pointer (some ⟨w.heap.size, 7, none⟩)), (fun z _ => z = Value.int .i64 (xq)), (fun z _ => z = Value.int .i64 (Quo.pickS xq 500000001)), (fun z _ => z = Value.int .i64 (2 * Quo.pickS xq 500000001)), (fun z _ => z = Value.pointer (some ⟨w.heap.size, 8, none⟩)), (fun z _ => z = Value.bool xd), (fun z _ => z = Value.pointer (some ⟨w.heap.size, 9, none⟩)), (fun z _ => z = Value.int .i64 (xa)), (fun z _ => z = Value.int .i64 (1000000001)), (fun z _ => z = Value.int .i64 (numR xa)), (fun z _ => z = Value.agg #[.int .i64 (numR xh), .int .i64 (numR xb), .string ⟨(Tp.fitL xv).toArray⟩, .int .i64 (numR xo), .int .i64 (numR xu), .bool (false || xd), .int .i64 (numR xn), .int .i64 (2 * Quo.pickS xq 500000001), .bool xd, .int .i64 (numR xa)])] (List.replicate 40 undef) rfl rfl rfl ?_ (by kernel_rfl) (by kernel_rfl) ?_ ?_
  · intro p hp
    simp only [List.mem_cons, List.not_mem_nil, or_false] at hp
    rcases hp with rfl | rfl | rfl | rfl | rfl | rfl | rfl | rfl | rfl | rfl | rfl | rfl | rfl | rfl | rfl | rfl | rfl | rfl | rfl | rfl | rfl | rfl | rfl | rfl | rfl | rfl | rfl | rfl | rfl | rfl | rfl | rfl | rfl | rfl | rfl | rfl | rfl | rfl | rfl | rfl
    all_goals exact stable_eq _
  · intro i hi zs l wz o hz hF ho hpre
    have hi' : i < 40 := hi
    match zs, (show zs.length = 40 from hz) with
    | z0 :: z1 :: z2 :: z3 :: z4 :: z5 :: z6 :: z7 :: z8 :: z9 :: z10 :: z11 :: z12 :: z13 :: z14 :: z15 :: z16 :: z17 :: z18 :: z19 :: z20 :: z21 :: z22 :: z23 :: z24 :: z25 :: z26 :: z27 :: z28 :: z29 :: z30 :: z31 :: z32 :: z33 :: z34 :: z35 :: z36 :: z37 :: z38 :: z39 :: [], _ =>
      clear hz hi
      change wpOp _ _ _ _ _ { tmps := List.toArray (Value.agg #[.int .i64 xh, .int .i64 xb, .string ⟨xv.toArray⟩, .int .i64 xo, .int .i64 xu, .bool false, .int .i64 xn, .int .i64 xq, .bool xd, .int .i64 xa] :: Value.pointer (some ⟨w.heap.size, 0, none⟩) :: Value.pointer (some ⟨w.heap.size + 1, 0, none⟩) :: Value.int .i64 (1000000001) :: z0 :: z1 :: z2 :: z3 :: z4 :: z5 :: z6 :: z7 :: z8 :: z9 :: z10 :: z11 :: z12 :: z13 :: z14 :: z15 :: z16 :: z17 :: z18 :: z19 :: z20 :: z21 :: z22 :: z23 :: z24 :: z25 :: z26 :: z27 :: z28 :: z29 :: z30 :: z31 :: z32 :: z33 :: z34 :: z35 :: z36 :: z37 :: z38 :: z39 :: []), defers := [] } _
      have hc : i = 0 ∨ i = 1 ∨ i = 2 ∨ i = 3 ∨ i = 4 ∨ i = 5 ∨ i = 6 ∨ i = 7 ∨ i = 8 ∨ i = 9 ∨ i = 10 ∨ i = 11 ∨ i = 12 ∨ i = 13 ∨ i = 14 ∨ i = 15 ∨ i = 16 ∨ i = 17 ∨ i = 18 ∨ i = 19 ∨ i = 20 ∨ i = 21 ∨ i = 22 ∨ i = 23 ∨ i = 24 ∨ i = 25 ∨ i = 26 ∨ i = 27 ∨ i = 28 ∨ i = 29 ∨ i = 30 ∨ i = 31 ∨ i = 32 ∨ i = 33 ∨ i = 34 ∨ i = 35 ∨ i = 36 ∨ i = 37 ∨ i = 38 ∨ i = 39 := by omega
      clear hi'
      rcases hc with rfl | rfl | rfl | rfl | rfl | rfl | rfl | rfl | rfl | rfl | rfl | rfl | rfl | rfl | rfl | rfl | rfl | rfl | rfl | rfl | rfl | rfl | rfl | rfl | rfl | rfl | rfl | rfl | rfl | rfl | rfl | rfl | rfl | rfl | rfl | rfl | rfl | rfl | rfl | rfl
      · clear ho hpre
        refine wpOp_here rfl (fun K' hK => ?_)
        go_simp
        exact hK _ _ ⟨_, rfl, Below.refl _ _, fun p hp => by cases (show some (fun z _ => z = Value.pointer (some ⟨w.heap.size, 0, none⟩)) = some p from hp); exact rfl⟩
      · obtain ⟨c0, c1, c2, c3, c4, c5, c6, c7, c8, c9⟩ := ten_of ((hF.bel.block _ hlb).trans HBOX.out)
        have p0 := hF.fact 0 _ _ rfl rfl (hpre ⟨0, .data⟩ (by cases ho; simp) rfl)
        subst p0
        clear ho hpre
        refine wpOp_here rfl (fun K' hK => ?_)
        go_simp
        exact hK _ _ ⟨_, rfl, Below.refl _ _, fun p hp => by cases (show some (fun z _ => z = Value.int .i64 (xh)) = some p from hp); exact rfl⟩
      · clear ho hpre
        refine wpOp_here rfl (fun K' hK => ?_)
        go_simp
        exact hK _ _ ⟨_, rfl, Below.refl _ _, fun p hp => by cases (show some (fun z _ => z = Value.int .i64 (1000000001)) = some p from hp); exact rfl⟩
      · have p1 := hF.fact 1 _ _ rfl rfl (hpre ⟨1, .data⟩ (by cases ho; simp) rfl)
        subst p1
        have p2 := hF.fact 2 _ _ rfl rfl (hpre ⟨2, .data⟩ (by cases ho; simp) rfl)
        subst p2
        clear ho hpre
        refine wpOp_here rfl (fun K' hK => ?_)
        go_simp
        refine (pick9_any xh 1000000001 wz ih.1 ih.2 (by decide) (by decide)).mono ?_
        rintro e6 w6 ⟨rfl, rfl⟩
        exact hK _ _ ⟨_, rfl, Below.refl _ _, fun p hp => by cases (show some (fun z _ => z = Value.int .i64 (numR xh)) = some p from hp); exact rfl⟩
      · clear ho hpre
        refine wpOp_here rfl (fun K' hK => ?_)
        go_simp
        exact hK _ _ ⟨_, rfl, Below.refl _ _, fun p hp => by cases (show some (fun z _ => z = Value.pointer (some ⟨w.heap.size, 1, none⟩)) = some p from hp); exact rfl⟩
      · obtain ⟨c0, c1, c2, c3, c4, c5, c6, c7, c8, c9⟩ := ten_of ((hF.bel.block _ hlb).trans HBOX.out)
        have p4 := hF.fact 4 _ _ rfl rfl (hpre ⟨4, .data⟩ (by cases ho; simp) rfl)
        subst p4
        clear ho hpre
        refine wpOp_here rfl (fun K' hK => ?_)
        go_simp
        exact hK _ _ ⟨_, rfl, Below.refl _ _, fun p hp => by cases (show some (fun z _ => z = Value.int .i64 (xb)) = some p from hp); exact rfl⟩
      · clear ho hpre
        refine wpOp_here rfl (fun K' hK => ?_)
        go_simp
        exact hK _ _ ⟨_, rfl, Below.refl _ _, fun p hp => by cases (show some (fun z _ => z = Value.int .i64 (1000000001)) = some p from hp); exact rfl⟩
      · have p5 := hF.fact 5 _ _ rfl rfl (hpre ⟨5, .data⟩ (by cases ho; simp) rfl)
        subst p5
        have p6 := hF.fact 6 _ _ rfl rfl (hpre ⟨6, .data⟩ (by cases ho; simp) rfl)
        subst p6
        clear ho hpre
        refine wpOp_here rfl (fun K' hK => ?_)
        go_simp
        refine (pick9_any xb 1000000001 wz ib.1 ib.2 (by decide) (by decide)).mono ?_
        rintro e6 w6 ⟨rfl, rfl⟩
        exact hK _ _ ⟨_, rfl, Below.refl _ _, fun p hp => by cases (show some (fun z _ => z = Value.int .i64 (numR xb)) = some p from hp); exact rfl⟩
      · clear ho hpre
        refine wpOp_here rfl (fun K' hK => ?_)
        go_simp
        exact hK _ _ ⟨_, rfl, Below.refl _ _, fun p hp => by cases (show some (fun z _ => z = Value.pointer (some ⟨w.heap.size, 2, none⟩)) = some p from hp); exact rfl⟩
      · obtain ⟨c0, c1, c2, c3, c4, c5, c6, c7, c8, c9⟩ := ten_of ((hF.bel.block _ hlb).trans HBOX.out)
        have p8 := hF.fact 8 _ _ rfl rfl (hpre ⟨8, .data⟩ (by cases ho; simp) rfl)
        subst p8
        clear ho hpre
        refine wpOp_here rfl (fun K' hK => ?_)
        go_simp
        exact hK _ _ ⟨_, rfl, Below.refl _ _, fun p hp => by cases (show some (fun z _ => z = Value.string ⟨xv.toArray⟩) = some p from hp); exact rfl⟩
      · have p9 := hF.fact 9 _ _ rfl rfl (hpre ⟨9, .data⟩ (by cases ho; simp) rfl)
        subst p9
        clear ho hpre
        refine wpOp_here rfl (fun K' hK => ?_)
        go_simp
        refine (Tp.Fit_any xv wz hv).mono ?_
        rintro e6 w6 ⟨rfl, hb6⟩
        exact hK _ _ ⟨_, rfl, hb6, fun p hp => by cases (show some (fun z _ => z = Value.string ⟨(Tp.fitL xv).toArray⟩) = some p from hp); exact rfl⟩
      · clear ho hpre
        refine wpOp_here rfl (fun K' hK => ?_)
        go_simp
        exact hK _ _ ⟨_, rfl, Below.refl _ _, fun p hp => by cases (show some (fun z _ => z = Value.pointer (some ⟨w.heap.size, 3, none⟩)) = some p from hp); exact rfl⟩
      · obtain ⟨c0, c1, c2, c3, c4, c5, c6, c7, c8, c9⟩ := ten_of ((hF.bel.block _ hlb).trans HBOX.out)
        have p11 := hF.fact 11 _ _ rfl rfl (hpre ⟨11, .data⟩ (by cases ho; simp) rfl)
        subst p11
        clear ho hpre
        refine wpOp_here rfl (fun K' hK => ?_)
        go_simp
        exact hK _ _ ⟨_, rfl, Below.refl _ _, fun p hp => by cases (show some (fun z _ => z = Value.int .i64 (xo)) = some p from hp); exact rfl⟩
      · clear ho hpre
        refine wpOp_here rfl (fun K' hK => ?_)
        go_simp
        exact hK _ _ ⟨_, rfl, Below.refl _ _, fun p hp => by cases (show some (fun z _ => z = Value.int .i64 (1000000001)) = some p from hp); exact rfl⟩
      · have p12 := hF.fact 12 _ _ rfl rfl (hpre ⟨12, .data⟩ (by cases ho; simp) rfl)
        subst p12
        have p13 := hF.fact 13 _ _ rfl rfl (hpre ⟨13, .data⟩ (by cases ho; simp) rfl)
        subst p13
        clear ho hpre
        refine wpOp_here rfl (fun K' hK => ?_)
        go_simp
        refine (pick9_any xo 1000000001 wz io.1 io.2 (by decide) (by decide)).mono ?_
        rintro e6 w6 ⟨rfl, rfl⟩
        exact hK _ _ ⟨_, rfl, Below.refl _ _, fun p hp => by cases (show some (fun z _ => z = Value.int .i64 (numR xo)) = some p from hp); exact rfl⟩
      · clear ho hpre
        refine wpOp_here rfl (fun K' hK => ?_)
        go_simp
        exact hK _ _ ⟨_, rfl, Below.refl _ _, fun p hp => by cases (show some (fun z _ => z = Value.pointer (some ⟨w.heap.size, 4, none⟩)) = some p from hp); exact rfl⟩
      · obtain ⟨c0, c1, c2, c3, c4, c5, c6, c7, c8, c9⟩ := ten_of ((hF.bel.block _ hlb).trans HBOX.out)
        have p15 := hF.fact 15 _ _ rfl rfl (hpre ⟨15, .data⟩ (by cases ho; simp) rfl)
        subst p15
        clear ho hpre
        refine wpOp_here rfl (fun K' hK => ?_)
        go_simp
        exact hK _ _ ⟨_, rfl, Below.refl _ _, fun p hp => by cases (show some (fun z _ => z = Value.int .i64 (xu)) = some p from hp); exact rfl⟩
      · clear ho hpre
        refine wpOp_here rfl (fun K' hK => ?_)
        go_simp
        exact hK _ _ ⟨_, rfl, Below.refl _ _, fun p hp => by cases (show some (fun z _ => z = Value.int .i64 (1000000001)) = some p from hp); exact rfl⟩
      · have p16 := hF.fact 16 _ _ rfl rfl (hpre ⟨16, .data⟩ (by cases ho; simp) rfl)
        subst p16
        have p17 := hF.fact 17 _ _ rfl rfl (hpre ⟨17, .data⟩ (by cases ho; simp) rfl)
        subst p17
        clear ho hpre
        refine wpOp_here rfl (fun K' hK => ?_)
        go_simp
        refine (pick9_any xu 1000000001 wz iu.1 iu.2 (by decide) (by decide)).mono ?_
        rintro e6 w6 ⟨rfl, rfl⟩
        exact hK _ _ ⟨_, rfl, Below.refl _ _, fun p hp => by cases (show some (fun z _ => z = Value.int .i64 (numR xu)) = some p from hp); exact rfl⟩
      · clear ho hpre
        refine wpOp_here rfl (fun K' hK => ?_)
        go_simp
        exact hK _ _ ⟨_, rfl, Below.refl _ _, fun p hp => by cases (show some (fun z _ => z = Value.pointer (some ⟨w.heap.size, 5, none⟩)) = some p from hp); exact rfl⟩
      · obtain ⟨c0, c1, c2, c3, c4, c5, c6, c7, c8, c9⟩ := ten_of ((hF.bel.block _ hlb).trans HBOX.out)
        have p19 := hF.fact 19 _ _ rfl rfl (hpre ⟨19, .data⟩ (by cases ho; simp) rfl)
        subst p19
        clear ho hpre
        refine wpOp_here rfl (fun K' hK => ?_)
        go_simp
        exact hK _ _ ⟨_, rfl, Below.refl _ _, fun p hp => by cases (show some (fun z _ => z = Value.bool false) = some p from hp); exact rfl⟩
      · have p20 := hF.fact 20 _ _ rfl rfl (hpre ⟨20, .data⟩ (by cases ho; simp) rfl)
        subst p20
        clear ho hpre
        refine wpOp_here rfl (fun K' hK => ?_)
        go_simp
        exact hK _ _ ⟨_, rfl, Below.refl _ _, fun p hp => by cases (show some (fun z _ => z = Value.bool false) = some p from hp); exact rfl⟩
      · have p21 := hF.fact 21 _ _ rfl rfl (hpre ⟨21, .guard⟩ (by cases ho; simp) rfl)
        subst p21
        clear ho hpre
        refine wpOp_here rfl (fun K' hK => ?_)
        go_simp
        exact hK _ _ ⟨_, rfl, Below.refl _ _, fun p hp => by cases (show some (fun z _ => z = Value.pointer (some ⟨w.heap.size, 8, none⟩)) = some p from hp); exact rfl⟩
      · obtain ⟨c0, c1, c2, c3, c4, c5, c6, c7, c8, c9⟩ := ten_of ((hF.bel.block _ hlb).trans HBOX.out)
        have p21 := hF.fact 21 _ _ rfl rfl (hpre ⟨21, .guard⟩ (by cases ho; simp) rfl)
        subst p21
        have p22 := hF.fact 22 _ _ rfl rfl (hpre ⟨22, .data⟩ (by cases ho; simp) rfl)
        subst p22
        clear ho hpre
        refine wpOp_here rfl (fun K' hK => ?_)
        go_simp
        exact hK _ _ ⟨_, rfl, Below.refl _ _, fun p hp => by cases (show some (fun z _ => z = Value.bool xd) = some p from hp); exact rfl⟩
      · have p21 := hF.fact 21 _ _ rfl rfl (hpre ⟨21, .data⟩ (by cases ho; simp) rfl)
        subst p21
        have p23 := hF.fact 23 _ _ rfl rfl (hpre ⟨23, .data⟩ (by cases ho; simp) rfl)
        subst p23
        clear ho hpre
        refine wpOp_here rfl (fun K' hK => ?_)
        go_simp
        exact hK _ _ ⟨_, rfl, Below.refl _ _, fun p hp => by cases (show some (fun z _ => z = Value.bool (false || xd)) = some p from hp); exact rfl⟩
      · clear ho hpre
        refine wpOp_here rfl (fun K' hK => ?_)
        go_simp
        exact hK _ _ ⟨_, rfl, Below.refl _ _, fun p hp => by cases (show some (fun z _ => z = Value.pointer (some ⟨w.heap.size, 6, none⟩)) = some p from hp); exact rfl⟩
      · obtain ⟨c0, c1, c2, c3, c4, c5, c6, c7, c8, c9⟩ := ten_of ((hF.bel.block _ hlb).trans HBOX.out)
        have p25 := hF.fact 25 _ _ rfl rfl (hpre ⟨25, .data⟩ (by cases ho; simp) rfl)
        subst p25
        clear ho hpre
        refine wpOp_here rfl (fun K' hK => ?_)
        go_simp
        exact hK _ _ ⟨_, rfl, Below.refl _ _, fun p hp => by cases (show some (fun z _ => z = Value.int .i64 (xn)) = some p from hp); exact rfl⟩
      · clear ho hpre
        refine wpOp_here rfl (fun K' hK => ?_)
        go_simp
        exact hK _ _ ⟨_, rfl, Below.refl _ _, fun p hp => by cases (show some (fun z _ => z = Value.int .i64 (1000000001)) = some p from hp); exact rfl⟩
      · have p26 := hF.fact 26 _ _ rfl rfl (hpre ⟨26, .data⟩ (by cases ho; simp) rfl)
        subst p26
        have p27 := hF.fact 27 _ _ rfl rfl (hpre ⟨27, .data⟩ (by cases ho; simp) rfl)
        subst p27
        clear ho hpre
        refine wpOp_here rfl (fun K' hK => ?_)
        go_simp
        refine (pick9_any xn 1000000001 wz in_.1 in_.2 (by decide) (by decide)).mono ?_
        rintro e6 w6 ⟨rfl, rfl⟩
        exact hK _ _ ⟨_, rfl, Below.refl _ _, fun p hp => by cases (show some (fun z _ => z = Value.int .i64 (numR xn)) = some p from hp); exact rfl⟩
      · clear ho hpre
        refine wpOp_here rfl (fun K' hK => ?_)
        go_simp
        exact hK _ _ ⟨_, rfl, Below.refl _ _, fun p hp => by cases (show some (fun z _ => z = Value.pointer (some ⟨w.heap.size, 7, none⟩)) = some p from hp); exact rfl⟩
      · obtain ⟨c0, c1, c2, c3, c4, c5, c6, c7, c8, c9⟩ := ten_of ((hF.bel.block _ hlb).trans HBOX.out)
        have p29 := hF.fact 29 _ _ rfl rfl (hpre ⟨29, .data⟩ (by cases ho; simp) rfl)
        subst p29
        clear ho hpre
        refine wpOp_here rfl (fun K' hK => ?_)
        go_simp
        exact hK _ _ ⟨_, rfl, Below.refl _ _, fun p hp => by cases (show some (fun z _ => z = Value.int .i64 (xq)) = some p from hp); exact rfl⟩
      · have p30 := hF.fact 30 _ _ rfl rfl (hpre ⟨30, .data⟩ (by cases ho; simp) rfl)
        subst p30
        clear ho hpre
        refine wpOp_here rfl (fun K' hK => ?_)
        go_simp
        refine (pick9_any xq 500000001 wz iq.1 iq.2 (by decide) (by decide)).mono ?_
        rintro e6 w6 ⟨rfl, rfl⟩
        exact hK _ _ ⟨_, rfl, Below.refl _ _, fun p hp => by cases (show some (fun z _ => z = Value.int .i64 (Quo.pickS xq 500000001)) = some p from hp); exact rfl⟩
      · have p31 := hF.fact 31 _ _ rfl rfl (hpre ⟨31, .data⟩ (by cases ho; simp) rfl)
        subst p31
        clear ho hpre
        refine wpOp_here rfl (fun K' hK => ?_)
        go_simp
        try rw [HMUL.out]
        exact hK _ _ ⟨_, rfl, Below.refl _ _, fun p hp => by cases (show some (fun z _ => z = Value.int .i64 (2 * Quo.pickS xq 500000001)) = some p from hp); exact rfl⟩
      · clear ho hpre
        refine wpOp_here rfl (fun K' hK => ?_)
        go_simp
        exact hK _ _ ⟨_, rfl, Below.refl _ _, fun p hp => by cases (show some (fun z _ => z = Value.pointer (some ⟨w.heap.size, 8, none⟩)) = some p from hp); exact rfl⟩
      · obtain ⟨c0, c1, c2, c3, c4, c5, c6, c7, c8, c9⟩ := ten_of ((hF.bel.block _ hlb).trans HBOX.out)
        have p33 := hF.fact 33 _ _ rfl rfl (hpre ⟨33, .data⟩ (by cases ho; simp) rfl)
        subst p33
        clear ho hpre
        refine wpOp_here rfl (fun K' hK => ?_)
        go_simp
        exact hK _ _ ⟨_, rfl, Below.refl _ _, fun p hp => by cases (show some (fun z _ => z = Value.bool xd) = some p from hp); exact rfl⟩
      · clear ho hpre
        refine wpOp_here rfl (fun K' hK => ?_)
        go_simp
        exact hK _ _ ⟨_, rfl, Below.refl _ _, fun p hp => by cases (show some (fun z _ => z = Value.pointer (some ⟨w.heap.size, 9, none⟩)) = some p from hp); exact rfl⟩
      · obtain ⟨c0, c1, c2, c3, c4, c5, c6, c7, c8, c9⟩ := ten_of ((hF.bel.block _ hlb).trans HBOX.out)
        have p35 := hF.fact 35 _ _ rfl rfl (hpre ⟨35, .data⟩ (by cases ho; simp) rfl)
        subst p35
        clear ho hpre
        refine wpOp_here rfl (fun K' hK => ?_)
        go_simp
        exact hK _ _ ⟨_, rfl, Below.refl _ _, fun p hp => by cases (show some (fun z _ => z = Value.int .i64 (xa)) = some p from hp); exact rfl⟩
      · clear ho hpre
        refine wpOp_here rfl (fun K' hK => ?_)
        go_simp
        exact hK _ _ ⟨_, rfl, Below.refl _ _, fun p hp => by cases (show some (fun z _ => z = Value.int .i64 (1000000001)) = some p from hp); exact rfl⟩
      · have p36 := hF.fact 36 _ _ rfl rfl (hpre ⟨36, .data⟩ (by cases ho; simp) rfl)
        subst p36
        have p37 := hF.fact 37 _ _ rfl rfl (hpre ⟨37, .data⟩ (by cases ho; simp) rfl)
        subst p37
        clear ho hpre
        refine wpOp_here rfl (fun K' hK => ?_)
        go_simp
        refine (pick9_any xa 1000000001 wz ia.1 ia.2 (by decide) (by decide)).mono ?_
        rintro e6 w6 ⟨rfl, rfl⟩
        exact hK _ _ ⟨_, rfl, Below.refl _ _, fun p hp => by cases (show some (fun z _ => z = Value.int .i64 (numR xa)) = some p from hp); exact rfl⟩
      · have p3 := hF.fact 3 _ _ rfl rfl (hpre ⟨3, .data⟩ (by cases ho; simp) rfl)
        subst p3
        have p7 := hF.fact 7 _ _ rfl rfl (hpre ⟨7, .data⟩ (by cases ho; simp) rfl)
        subst p7
        have p10 := hF.fact 10 _ _ rfl rfl (hpre ⟨10, .data⟩ (by cases ho; simp) rfl)
        subst p10
        have p14 := hF.fact 14 _ _ rfl rfl (hpre ⟨14, .data⟩ (by cases ho; simp) rfl)
        subst p14
        have p18 := hF.fact 18 _ _ rfl rfl (hpre ⟨18, .data⟩ (by cases ho; simp) rfl)
        subst p18
        have p24 := hF.fact 24 _ _ rfl rfl (hpre ⟨24, .data⟩ (by cases ho; simp) rfl)
        subst p24
        have p28 := hF.fact 28 _ _ rfl rfl (hpre ⟨28, .data⟩ (by cases ho; simp) rfl)
        subst p28
        have p32 := hF.fact 32 _ _ rfl rfl (hpre ⟨32, .data⟩ (by cases ho; simp) rfl)
        subst p32
        have p34 := hF.fact 34 _ _ rfl rfl (hpre ⟨34, .data⟩ (by cases ho; simp) rfl)
        subst p34
        have p38 := hF.fact 38 _ _ rfl rfl (hpre ⟨38, .data⟩ (by cases ho; simp) rfl)
        subst p38
        clear ho hpre
        refine wpOp_here rfl (fun K' hK => ?_)
        go_simp
        exact hK _ _ ⟨_, rfl, Below.refl _ _, fun p hp => by cases (show some (fun z _ => z = Value.agg #[.int .i64 (numR xh), .int .i64 (numR xb), .string ⟨(Tp.fitL xv).toArray⟩, .int .i64 (numR xo), .int .i64 (numR xu), .bool (false || xd), .int .i64 (numR xn), .int .i64 (2 * Quo.pickS xq 500000001), .bool xd, .int .i64 (numR xa)]) = some p from hp); exact rfl⟩
  · intro zs wz hz hB hev
    match zs, (show zs.length = 40 from hz) with
    | z0 :: z1 :: z2 :: z3 :: z4 :: z5 :: z6 :: z7 :: z8 :: z9 :: z10 :: z11 :: z12 :: z13 :: z14 :: z15 :: z16 :: z17 :: z18 :: z19 :: z20 :: z21 :: z22 :: z23 :: z24 :: z25 :: z26 :: z27 :: z28 :: z29 :: z30 :: z31 :: z32 :: z33 :: z34 :: z35 :: z36 :: z37 :: z38 :: z39 :: [], _ =>
      have p39 := hev 39 _ _ rfl rfl
      clear hev hz
      change wpOp _ _ _ _ _ { tmps := List.toArray (Value.agg #[.int .i64 xh, .int .i64 xb, .string ⟨xv.toArray⟩, .int .i64 xo, .int .i64 xu, .bool false, .int .i64 xn, .int .i64 xq, .bool xd, .int .i64 xa] :: Value.pointer (some ⟨w.heap.size, 0, none⟩) :: Value.pointer (some ⟨w.heap.size + 1, 0, none⟩) :: Value.int .i64 (1000000001) :: z0 :: z1 :: z2 :: z3 :: z4 :: z5 :: z6 :: z7 :: z8 :: z9 :: z10 :: z11 :: z12 :: z13 :: z14 :: z15 :: z16 :: z17 :: z18 :: z19 :: z20 :: z21 :: z22 :: z23 :: z24 :: z25 :: z26 :: z27 :: z28 :: z29 :: z30 :: z31 :: z32 :: z33 :: z34 :: z35 :: z36 :: z37 :: z38 :: z39 :: []), defers := [] } _
      subst p39
      have y0 := (hB.block _ hlr).trans HRES.out
      obtain ⟨c0, c1, c2, c3, c4, c5, c6, c7, c8, c9⟩ := ten_of y0
      obtain ⟨g0, g1, g2, g3, g4, g5, g6, g7, g8, g9⟩ := free_ten y0
      refine wpOp_here rfl (fun K' hK => ?_)
      go_simp
      refine hK _ _ ?_
      go_wp2_with fail
      refine bodyPost_ret (v := Value.agg #[.int .i64 (numR xh), .int .i64 (numR xb), .string ⟨(Tp.fitL xv).toArray⟩, .int .i64 (numR xo), .int .i64 (numR xu), .bool (false || xd), .int .i64 (numR xn), .int .i64 (2 * Quo.pickS xq 500000001), .bool xd, .int .i64 (numR xa)]) (by simp [results, Tryz.results33, go_sem, c0, c1, c2, c3, c4, c5, c6, c7, c8, c9]) rfl ?_
      exact ⟨rfl, below_ten (HB2.out.trans (hB.mono hs2)) (by omega) _ _ _ _ _ _ _ _ _ _⟩
/-- Of a raw state, a right one. -/
theorem fit9_any (x : S9) (w : World) (hx : x.ok) : Calls Tryz.prog 33 #[sV x] w (Ret (sV (fit9 Tp.fitL x)) w) := by
  obtain ⟨xh, xb, xv, xo, xu, lv, xn, xq, xd, xa⟩ := x
  obtain ⟨ih, ib, io, iu, jn, iq, ia, hv⟩ := hx
  have hv' : xv.length ≤ Tp.reachN := by unfold Tp.reachN; exact hv
  cases lv with
  | true => exact fit9_true xh xb xo xu xn xq xa xv xd w ih ib io iu jn iq ia hv'
  | false => exact fit9_false xh xb xo xu xn xq xa xv xd w ih ib io iu jn iq ia hv'
end Go.Proofs.YtcpggmdiojaalaaGreatDoor.Sta

/- Layer 9: awake answers true; what the laws call, as they meet it. -/
set_option linter.unusedVariables false
set_option linter.unusedSimpArgs false
namespace Go.Proofs.YtcpggmdiojaalaaGreatDoor.Sta
open Go.RowKit Js Lex Od

theorem lay9_yes {y : S9} (hr : rightT Tp.nameB y = true) (w : World) (hT : Dec.Tab w) : Calls Tryz.prog 34 #[sV y] w (Ret (.tuple #[.string ⟨(layS9 y).toArray⟩, .int .i64 0]) w) := by
  have := Lay9_any y w hT (ok_right name_ok hr)
  rwa [if_pos hr] at this
theorem lay9_no {y : S9} (hr : rightT Tp.nameB y = false) (hy : y.ok) (w : World) (hT : Dec.Tab w) : Calls Tryz.prog 34 #[sV y] w (Ret (.tuple #[.string ⟨#[]⟩, .int .i64 1]) w) := by
  have := Lay9_any y w hT hy
  rwa [if_neg (by rw [hr]; decide)] at this
theorem layS9_len {y : S9} (hr : rightT Tp.nameB y = true) : 9 ≤ (layS9 y).length ∧ (layS9 y).length ≤ 2009 := by
  have := lay9_len name_ok hr
  unfold layS9
  rw [Se.sealS_len]
  omega
theorem take9_lay {y : S9} (hr : rightT Tp.nameB y = true) (w : World) : Calls Tryz.prog 41 #[.string ⟨(layS9 y).toArray⟩] w (Ret (.tuple #[sV y, .int .i64 0]) w) := by
  have := Take9_any (layS9 y) w (by have := (layS9_len hr).2; omega)
  rw [takeS9_layS9 name_ok hr] at this
  exact this
/-- A state in a box. -/
structure BX9 (C : Array Value) (b : Nat) (w : World) : Prop where
  blk : w.heap[b]? = some (.cells C 53 (0, 0))
theorem BX9.new (w : World) (C : Array Value) : BX9 C w.heap.size (w.alloc (.cells C 53)) := ⟨heap_alloc_new _ _⟩
theorem BX9.lt {C : Array Value} {b : Nat} {w : World} (h : BX9 C b w) : b < w.heap.size := Own.block_lt h.blk
theorem BX9.below {C : Array Value} {b : Nat} {w w' : World} (h : BX9 C b w) (hb : Below w.heap.size w w') : BX9 C b w' := ⟨(hb.block _ h.lt).trans h.blk⟩
theorem BX9.box {C : Array Value} {b : Nat} {w : World} (h : BX9 C b w) (o : Obj) : BX9 C b (w.alloc o) := h.below (belowOne _ _)
theorem below_next {w a b : World} (h : Below w.heap.size w a) (k : Below a.heap.size a b) : Below w.heap.size w b := h.trans (k.mono h.size)
theorem below_box {w a : World} (h : Below w.heap.size w a) (o : Obj) : Below w.heap.size w (a.alloc o) := h.alloc h.size o

set_option maxHeartbeats 8000000 in
set_option maxRecDepth 100000 in
theorem awake9_any (w : World) (hT : Dec.Tab w) : Calls Tryz.prog 32 #[] w (Ret (.bool true) w) := by
  have L1 := Lib.hid (fun (w' : World) (hb : Below w.heap.size w w') => lay9_yes ex9_right w' (hT.below hb))
  have L0 := Lib.hid (fun (w' : World) (hb : Below w.heap.size w w') => lay9_no s0_wrong s0_ok w' (hT.below hb))
  have T1 := Lib.hid (fun (w' : World) => take9_lay ex9_right w')
  have N1 := Lib.hid (fun (w' : World) => newer9_any ⟨5, 1, [], 0, 0, false, 0, 0, false, 0⟩ ⟨0, 2, [], 0, 0, false, 0, 0, false, 0⟩ w')
  rw [show newerB ⟨5, 1, [], 0, 0, false, 0, 0, false, 0⟩ ⟨0, 2, [], 0, 0, false, 0, 0, false, 0⟩ = false by decide] at N1
  have R1 := Lib.hid (fun (w' : World) => right9_any ex9 w' (ok_right name_ok ex9_right))
  rw [ex9_right] at R1
  have SE := Lib.hid (fun (w' : World) => Se.seal_l ex9T w' (by decide))
  have HL := Lib.hid ex9_len
  have hLS : Se.sealS ex9T = layS9 ex9 := by unfold layS9; rw [ex9_text]
  rw [hLS] at SE
  unfold ex9T at SE
  have HSZ : Hid ((⟨(layS9 ex9).toArray⟩ : ByteArray).size = 159) := by show _ = _; rw [bs_size, HL.out]
  have h159 := HSZ.out
  generalize layS9 ex9 = T at *
  unfold sV sC ex9 s0 at *
  simp only at L1 L0 T1 N1 R1
  clear hLS
  go_enter Tryz.func32, Tryz.ntmps32
  have B0 := Lib.hid (belowOne w (.cells #[.int .i64 1, .int .i64 2, .string ⟨#[118]⟩, .int .i64 3, .int .i64 4, .bool true, .int .i64 5, .int .i64 6, .bool true, .int .i64 7] 53))
  have X0 := Lib.hid (BX9.new w #[.int .i64 1, .int .i64 2, .string ⟨#[118]⟩, .int .i64 3, .int .i64 4, .bool true, .int .i64 5, .int .i64 6, .bool true, .int .i64 7])
  go_wp2_with (first
    | (go_at_call 34; (with_reducible refine (L1.out _ B0.out).mono ?_); rintro e1 w1 ⟨rfl, hb1⟩; have B1 := Lib.hid (below_next B0.out hb1); have X1 := Lib.hid (X0.out.below hb1); clear hb1)
    | (go_at_call 41; (with_reducible refine (T1.out _).mono ?_); rintro e2 w2 ⟨rfl, hb2⟩; have B2 := Lib.hid (below_box (below_next B1.out hb2) (.cells #[.int .i64 1, .int .i64 2, .string ⟨#[118]⟩, .int .i64 3, .int .i64 4, .bool true, .int .i64 5, .int .i64 6, .bool true, .int .i64 7] 53)); have X2 := Lib.hid ((X1.out.below hb2).box (.cells #[.int .i64 1, .int .i64 2, .string ⟨#[118]⟩, .int .i64 3, .int .i64 4, .bool true, .int .i64 5, .int .i64 6, .bool true, .int .i64 7] 53)); have U2 := Lib.hid (BX9.new w2 #[.int .i64 1, .int .i64 2, .string ⟨#[118]⟩, .int .i64 3, .int .i64 4, .bool true, .int .i64 5, .int .i64 6, .bool true, .int .i64 7]); clear hb2)
    | (go_at_call 34; (with_reducible refine (L0.out _ B2.out).mono ?_); rintro e3 w3 ⟨rfl, hb3⟩; have B3 := Lib.hid (below_next B2.out hb3); have X3 := Lib.hid (X2.out.below hb3); have U3 := Lib.hid (U2.out.below hb3); clear hb3)
    | (go_at_call 23; (with_reducible refine (SE.out _).mono ?_); rintro e4 w4 ⟨rfl, hb4⟩; have B4 := Lib.hid (below_next B3.out hb4); have X4 := Lib.hid (X3.out.below hb4); have U4 := Lib.hid (U3.out.below hb4); obtain ⟨x0, x1, x2, x3, x4, x5, x6, x7, x8, x9⟩ := ten_of X4.out.blk; obtain ⟨u0, u1, u2, u3, u4, u5, u6, u7, u8, u9⟩ := ten_of U4.out.blk; clear hb4)
    | (go_at_call 38; (with_reducible refine (N1.out _).mono ?_); rintro e5 w5 ⟨rfl, hb5⟩; have B5 := Lib.hid (below_next B4.out hb5); have X5 := Lib.hid (X4.out.below hb5); obtain ⟨y0, y1, y2, y3, y4, y5, y6, y7, y8, y9⟩ := ten_of X5.out.blk; clear hb5)
    | (go_at_call 36; (with_reducible refine (R1.out _).mono ?_); rintro e6 w6 ⟨rfl, hb6⟩; have B6 := Lib.hid (below_next B5.out hb6); clear hb6))
  go_ret
  exact ⟨rfl, B6.out⟩
end Go.Proofs.YtcpggmdiojaalaaGreatDoor.Sta

/- Layer 9: two states are held against each other by '=='. -/
set_option linter.unusedVariables false
set_option linter.unusedSimpArgs false
namespace Go.Proofs.YtcpggmdiojaalaaGreatDoor.Sta
open Go.RowKit Js Lex Od

set_option maxHeartbeats 2000000 in
set_option maxRecDepth 100000 in
theorem eq9_run (x y : S9) (w : World) : (binOp .eql 53 (sV x) (sV y)).run Tryz.prog w = .ok (.bool (sameT x y)) w := by
  obtain ⟨hd, bo, nm, od, up, lv, nd, sq, dr, ac⟩ := x
  obtain ⟨hd', bo', nm', od', up', lv', nd', sq', dr', ac'⟩ := y
  unfold sV sC sameT
  go_simp
  repeat (split; rotate_left; focus (simp [*]; done))
  simp [*]
end Go.Proofs.YtcpggmdiojaalaaGreatDoor.Sta
