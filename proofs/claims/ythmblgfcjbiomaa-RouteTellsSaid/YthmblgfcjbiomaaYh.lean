import Derived.Test.YthmblgfcjbiomaaYg
import Derived.Test.YthmblgfcjbiomaaGs
/- Reach. -/
set_option linter.unusedVariables false
set_option linter.unusedSimpArgs false
namespace Go.Proofs.Ythmblgfcjbiomaa.Ly
open Go.RowKit

/-- A row of bools that was made. -/
def ArrV (B : Nat) (c : List Bool) (z : Value) (w : World) : Prop := ∃ b, z = .pointer (some ⟨b, 0, none⟩) ∧ B ≤ b ∧ ArrAt w b 55 c
theorem ArrV.stable (B : Nat) (c : List Bool) : Stable (ArrV B c) := fun z w w' ⟨b, hz, h1, hb⟩ hB => ⟨b, hz, h1, hb.below hB hb.lt⟩
theorem reach_no {n : Int} {es : List Ed} {w : World} (v bv : Value) (hv : EdgesAt w v es) (bl : List Int) (hb : IntsAt w bv bl) (a : Int) (h : (rightB n es && nodeB n a) = false) :
    Calls Try.prog 22 #[.agg #[.int .i64 n, v], bv, .int .i64 a] w (RetInts [] w) := by
  have HB0 : Hid (Below w.heap.size w (w.alloc (.cells #[.int .i64 n, v] 24))) := (Below.refl _ w).alloc (Nat.le_refl _) _
  have HX0 := Lib.hid (BoxAt.new n v w)
  have HV := Lib.hid (hv.below HB0.out (Nat.le_refl _))
  obtain ⟨Q, HQ⟩ : ∃ Q, Hid (RetInts [] w = Q) := ⟨_, rfl⟩
  rw [HQ.out]
  cases hr : rightB n es with
  | false =>
    have C := Lib.hid (fun u w' hu => right_any (n := n) (es := es) (w := w') u hu false hr)
    clear hr hv h hb
    go_enter Try.func22, Try.ntmps22
    go_wp2_with (go_at_call 25; (with_reducible refine (C.out _ _ HV.out).mono ?_); rintro e w1 ⟨rfl, hb1⟩; have HB1 := Lib.hid (HB0.out.trans (hb1.mono HB0.out.size)); clear hb1)
    rw [← HQ.out]
    exact ⟨_, rfl, IntsAt.nil _ _, HB1.out⟩
  | true =>
    rw [hr, Bool.true_and] at h
    have C := Lib.hid (fun u w' hu => right_any (n := n) (es := es) (w := w') u hu true hr)
    have C2 := Lib.hid (fun w' => isNode_any n a v w' false h)
    clear hr hv h hb
    go_enter Try.func22, Try.ntmps22
    go_wp2_with (first
      | (go_at_call 25; (with_reducible refine (C.out _ _ HV.out).mono ?_); rintro e w1 ⟨rfl, hb1⟩; have HB1 := Lib.hid (HB0.out.trans (hb1.mono HB0.out.size)); have HX1 := Lib.hid (HX0.out.below hb1); have c0 := HX1.out.c0; have c1 := HX1.out.c1; clear hb1)
      | (go_at_call 30; (with_reducible refine (C2.out _).mono ?_); rintro e w2 ⟨rfl, hb2⟩; have HB2 := Lib.hid (HB1.out.trans (hb2.mono HB1.out.size)); clear hb2))
    rw [← HQ.out]
    exact ⟨_, rfl, IntsAt.nil _ _, HB2.out⟩
set_option maxRecDepth 100000 in
set_option maxHeartbeats 16000000 in
theorem reach_yes {n : Int} {es : List Ed} {w : World} (v bv : Value) (hv : EdgesAt w v es) (bl : List Int) (hb : IntsAt w bv bl) (a : Int) (hr : RightL n es) (ha : nodeB n a = true) :
    Calls Try.prog 22 #[.agg #[.int .i64 n, v], bv, .int .i64 a] w (RetInts (selL (fun i => wayB es bl a i) n.toNat) w) := by
  have HB0 : Hid (Below w.heap.size w (w.alloc (.cells #[.int .i64 n, v] 24))) := (Below.refl _ w).alloc (Nat.le_refl _) _
  have HX0 := Lib.hid (BoxAt.new n v w)
  have HV := Lib.hid (hv.below HB0.out (Nat.le_refl _))
  have HU := Lib.hid (hb.below HB0.out (Nat.le_refl _))
  have C := Lib.hid (fun u w' hu => right_any (n := n) (es := es) (w := w') u hu true (rightB_true hr))
  have C2 := Lib.hid (fun w' => isNode_any n a v w' true ha)
  have C3 := Lib.hid (fun w' (hu : IntsAt w' bv bl) => marked_ret (n := n) (w := w') v bv bl hu hr.2.1)
  have C4 := Lib.hid (fun w' (hu : EdgesAt w' v es) => comeTo_any (n := n) (es := es) (w := w') v hu hr (marksL n bl) bl (marks_of n bl) a ha)
  have n1 := hr.1
  have n40 := hr.2.1
  obtain ⟨N, rfl⟩ : ∃ N : Nat, n = (N : Int) := ⟨n.toNat, by omega⟩
  rw [Int.toNat_natCast]
  have hle := selL_le (fun i : Nat => wayB es bl a i) N
  obtain ⟨p, hp⟩ : ∃ p : Nat → Bool, (fun i : Nat => wayB es bl a i) = p := ⟨_, rfl⟩
  rw [hp] at hle ⊢
  have HP : Hid (∀ i, i < 40 → atb (comeL es bl a) i = p i) := fun i hi => by rw [comeL_at hi, ← hp]
  have HCL := Lib.hid (comeL_len es bl a)
  clear hp hr ha hb hv
  generalize comeL es bl a = cm at *
  generalize marksL (N : Int) bl = mk at *
  obtain ⟨Q, HQ⟩ : ∃ Q, Hid (RetInts (selL p N) w = Q) := ⟨_, rfl⟩
  rw [HQ.out]
  obtain ⟨ao, lb, cap, rfl⟩ : ∃ ao lb cap, bv = .slice ao lb cap := by
    obtain ⟨ao, cap, h, _⟩ := HU.out
    exact ⟨ao, _, cap, h⟩
  obtain ⟨eo, le, ce, rfl⟩ : ∃ ao lb cap, v = .slice ao lb cap := by
    obtain ⟨ao, cap, h, _⟩ := HV.out
    exact ⟨ao, _, cap, h⟩
  obtain ⟨M0, hM0⟩ : ∃ Z, Hid (boolC mk = Z) := ⟨_, rfl⟩
  obtain ⟨K0, hK0⟩ : ∃ Z, Hid (boolC cm = Z) := ⟨_, rfl⟩
  rw [hM0.out] at C3 C4
  rw [hK0.out] at C4
  go_enter Try.func22, Try.ntmps22
  go_upto_region 3 with (first
      | (go_at_call 25; (with_reducible refine (C.out _ _ HV.out).mono ?_); rintro e w1 ⟨rfl, hb1⟩; have HB1 := Lib.hid (HB0.out.trans (hb1.mono HB0.out.size)); have HX1 := Lib.hid (HX0.out.below hb1); have HV1 := Lib.hid (HV.out.below hb1 (Nat.le_refl _)); have HU1 := Lib.hid (HU.out.below hb1 (Nat.le_refl _)); have c0 := HX1.out.c0; have c1 := HX1.out.c1; clear hb1)
      | (go_at_call 30; (with_reducible refine (C2.out _).mono ?_); rintro e w2 ⟨rfl, hb2⟩; have HB2 := Lib.hid (HB1.out.trans (hb2.mono HB1.out.size)); have HX2 := Lib.hid (HX1.out.below hb2); have HV2 := Lib.hid (HV1.out.below hb2 (Nat.le_refl _)); have HU2 := Lib.hid (HU1.out.below hb2 (Nat.le_refl _)); clear hb2))
  clear c0 c1
  rename_i K1 A1
  have hs2 := HX2.out.lt
  have HW2 := Lib.hid HB2.out.size
  clear HX0 HX1 HV HV1 HU HU1 HB0 HB1 C C2
  refine wp_region_grow mixed (fun zs => { tmps := List.toArray (Value.agg #[Value.int .i64 (N : Int), Value.slice eo le ce] :: Value.slice ao lb cap :: Value.int .i64 a :: Value.pointer (some ⟨w.heap.size, 0, none⟩) :: undef :: undef :: Value.slice none 0 0 :: zs.getD 6 undef :: undef :: undef :: Value.agg #[Value.int .i64 (N : Int), Value.slice eo le ce] :: Value.bool true :: Value.bool false :: Value.bool false :: Value.agg #[Value.int .i64 (N : Int), Value.slice eo le ce] :: Value.int .i64 a :: Value.bool true :: Value.bool false :: Value.bool false :: zs.getD 0 undef :: zs.getD 1 undef :: zs.getD 2 undef :: zs.getD 3 undef :: zs.getD 4 undef :: zs.getD 5 undef :: undef :: undef :: undef :: undef :: undef :: undef :: undef :: undef :: undef :: undef :: undef :: undef :: undef :: undef :: []), defers := [] }) [(fun z _ => z = Value.agg #[Value.int .i64 (N : Int), Value.slice eo le ce]), (fun z _ => z = Value.agg #[Value.int .i64 (N : Int), Value.slice eo le ce]), (fun z _ => z = Value.slice ao lb cap), (fun z _ => z = Value.agg M0), (fun z _ => z = Value.int .i64 a), (fun z _ => z = Value.agg K0), ArrV w2.heap.size (List.replicate 40 false)] (List.replicate 7 undef) rfl rfl rfl ?_ (by kernel_rfl) (by kernel_rfl) ?_ ?_
  · intro p hp
    simp only [List.mem_cons, List.not_mem_nil, or_false] at hp
    rcases hp with rfl | rfl | rfl | rfl | rfl | rfl | rfl
    all_goals first | exact stable_eq _ | exact ArrV.stable _ _
  · clear A1
    intro i hi zs l wz o hz hF ho hpre
    have hi' : i < 7 := hi
    have x0 := (hF.bel.cell (p := ⟨w.heap.size, 0, none⟩) hs2).trans HX2.out.c0
    have x1 := (hF.bel.cell (p := ⟨w.heap.size, 1, none⟩) hs2).trans HX2.out.c1
    have HVz := Lib.hid (HV2.out.below hF.bel (Nat.le_refl _))
    have HUz := Lib.hid (HU2.out.below hF.bel (Nat.le_refl _))
    match zs, (show zs.length = 7 from hz) with
    | z0 :: z1 :: z2 :: z3 :: z4 :: z5 :: z6 :: [], _ =>
      clear hz hi
      change wpOp _ _ _ _ _ { tmps := List.toArray (Value.agg #[Value.int .i64 (N : Int), Value.slice eo le ce] :: Value.slice ao lb cap :: Value.int .i64 a :: Value.pointer (some ⟨w.heap.size, 0, none⟩) :: undef :: undef :: Value.slice none 0 0 :: z6 :: undef :: undef :: Value.agg #[Value.int .i64 (N : Int), Value.slice eo le ce] :: Value.bool true :: Value.bool false :: Value.bool false :: Value.agg #[Value.int .i64 (N : Int), Value.slice eo le ce] :: Value.int .i64 a :: Value.bool true :: Value.bool false :: Value.bool false :: z0 :: z1 :: z2 :: z3 :: z4 :: z5 :: undef :: undef :: undef :: undef :: undef :: undef :: undef :: undef :: undef :: undef :: undef :: undef :: undef :: undef :: []), defers := [] } _
      have hc : i = 0 ∨ i = 1 ∨ i = 2 ∨ i = 3 ∨ i = 4 ∨ i = 5 ∨ i = 6 := by omega
      clear hi'
      rcases hc with rfl | rfl | rfl | rfl | rfl | rfl | rfl
      · clear ho hpre
        refine wpOp_here rfl (fun K' hK => ?_)
        go_simp
        exact hK _ _ ⟨_, rfl, Below.refl _ _, fun p hp => by cases (show some (fun z _ => z = Value.agg #[Value.int .i64 (N : Int), Value.slice eo le ce]) = some p from hp); exact rfl⟩
      · clear ho hpre
        refine wpOp_here rfl (fun K' hK => ?_)
        go_simp
        exact hK _ _ ⟨_, rfl, Below.refl _ _, fun p hp => by cases (show some (fun z _ => z = Value.agg #[Value.int .i64 (N : Int), Value.slice eo le ce]) = some p from hp); exact rfl⟩
      · clear ho hpre
        refine wpOp_here rfl (fun K' hK => ?_)
        go_simp
        exact hK _ _ ⟨_, rfl, Below.refl _ _, fun p hp => by cases (show some (fun z _ => z = Value.slice ao lb cap) = some p from hp); exact rfl⟩
      · have p1 := hF.fact 1 _ _ rfl rfl (hpre ⟨1, .data⟩ (by cases ho; simp) rfl)
        subst p1
        have p2 := hF.fact 2 _ _ rfl rfl (hpre ⟨2, .data⟩ (by cases ho; simp) rfl)
        subst p2
        clear ho hpre
        refine wpOp_here rfl (fun K' hK => ?_)
        go_simp
        refine (C3.out _ HUz.out).mono ?_
        rintro e6 w6' ⟨rfl, hb6⟩
        exact hK _ _ ⟨_, rfl, hb6, fun p hp => by cases (show some (fun z _ => z = Value.agg M0) = some p from hp); exact rfl⟩
      · clear ho hpre
        refine wpOp_here rfl (fun K' hK => ?_)
        go_simp
        exact hK _ _ ⟨_, rfl, Below.refl _ _, fun p hp => by cases (show some (fun z _ => z = Value.int .i64 a) = some p from hp); exact rfl⟩
      · have p0 := hF.fact 0 _ _ rfl rfl (hpre ⟨0, .data⟩ (by cases ho; simp) rfl)
        subst p0
        have p3 := hF.fact 3 _ _ rfl rfl (hpre ⟨3, .data⟩ (by cases ho; simp) rfl)
        subst p3
        have p4 := hF.fact 4 _ _ rfl rfl (hpre ⟨4, .data⟩ (by cases ho; simp) rfl)
        subst p4
        clear ho hpre
        refine wpOp_here rfl (fun K' hK => ?_)
        go_simp
        refine (C4.out _ HVz.out).mono ?_
        rintro e6 w6' ⟨rfl, hb6⟩
        exact hK _ _ ⟨_, rfl, hb6, fun p hp => by cases (show some (fun z _ => z = Value.agg K0) = some p from hp); exact rfl⟩
      · clear ho hpre
        have hsz := hF.bel.size
        have HAN := ArrAt.new wz 55 (List.replicate 40 false)
        refine wpOp_here rfl (fun K' hK => ?_)
        go_simp
        exact hK _ _ ⟨_, rfl, (Below.refl _ _).alloc (Nat.le_refl _) _, fun p hp => by cases (show some (ArrV w2.heap.size (List.replicate 40 false)) = some p from hp); exact ⟨_, rfl, hsz, HAN⟩⟩
  · intro zs wz hz hbel hev
    match zs, (show zs.length = 7 from hz) with
    | z0 :: z1 :: z2 :: z3 :: z4 :: z5 :: z6 :: [], _ =>
      have p5 := hev 5 _ _ rfl rfl
      have p6 := hev 6 _ _ rfl rfl
      have p0 := hev 0 _ _ rfl rfl
      have p1 := hev 1 _ _ rfl rfl
      have p2 := hev 2 _ _ rfl rfl
      have p3 := hev 3 _ _ rfl rfl
      have p4 := hev 4 _ _ rfl rfl
      subst p0 p1 p2 p3 p4 p5
      obtain ⟨b, rfl, hbb, hab⟩ := p6
      clear hz hev
      change wpOp _ _ _ _ _ { tmps := List.toArray (Value.agg #[Value.int .i64 (N : Int), Value.slice eo le ce] :: Value.slice ao lb cap :: Value.int .i64 a :: Value.pointer (some ⟨w.heap.size, 0, none⟩) :: undef :: undef :: Value.slice none 0 0 :: Value.pointer (some ⟨b, 0, none⟩) :: undef :: undef :: Value.agg #[Value.int .i64 (N : Int), Value.slice eo le ce] :: Value.bool true :: Value.bool false :: Value.bool false :: Value.agg #[Value.int .i64 (N : Int), Value.slice eo le ce] :: Value.int .i64 a :: Value.bool true :: Value.bool false :: Value.bool false :: Value.agg #[Value.int .i64 (N : Int), Value.slice eo le ce] :: Value.agg #[Value.int .i64 (N : Int), Value.slice eo le ce] :: Value.slice ao lb cap :: Value.agg M0 :: Value.int .i64 a :: Value.agg K0 :: undef :: undef :: undef :: undef :: undef :: undef :: undef :: undef :: undef :: undef :: undef :: undef :: undef :: undef :: []), defers := [] } _
      have hss := hbel.size
      have HBq := Lib.hid (Below.setRow (HB2.out.trans (hbel.mono HB2.out.size)) (g := b) (by have := HW2.out; omega) K0)
      have HXq : Hid ((wz.setRow b K0).cell? ⟨w.heap.size, 0, none⟩ = some (.int .i64 (N : Int))) := by
        show _ = _
        rw [cell_setRow_other _ _ _ _ (by show w.heap.size ≠ b; omega)]
        exact (hbel.cell (p := ⟨w.heap.size, 0, none⟩) hs2).trans HX2.out.c0
      have HAq : Hid (ArrAt (wz.setRow b K0) b 55 cm) := by
        show ArrAt _ _ _ _
        unfold ArrAt
        rw [hK0.out]
        exact setRow_heap wz b _ K0 55 (0, 0) hab
      have hbq : b < (wz.setRow b K0).heap.size := HAq.out.lt
      have hsq : w.heap.size < (wz.setRow b K0).heap.size := by rw [setRow_size]; omega
      refine wpOp_here rfl (fun K' hK => ?_)
      rw [if_pos (by rfl)]
      refine wp_store_row 55 _ _ rfl b K0 rfl rfl 55 _ hab (by rw [← hK0.out]; exact size_of HCL.out) (by rw [← hK0.out, boolC_size, boolC_size, HCL.out]; simp) (by rw [← hK0.out]; exact boolC_one _) ?_
      refine hK _ _ ?_
      clear hK hab hbel hss
      generalize wz.setRow b K0 = wq at *
      refine A1 _ _ ?_
      have c0 := HXq.out
      obtain ⟨i0, hi0, hz0, hz1, hz2⟩ := info_parts int_info
      go_wp2
      go_loopw [8, 27] (fun vo i wr => ∃ (k m : Nat) (vo' : Value), vo' = vo ∧ k ≤ N ∧ i = .int .i64 k ∧ m ≤ k ∧ Hid (wr.ownsRow wq.heap.size 3 1 vo' m (intC (selL p k))) ∧ Hid (m = (selL p k).length) ∧ Hid (Below wq.heap.size wq wr)) (fun _ i _ => N - (intOf i).toNat)
      case atStart => exact ⟨0, 0, _, rfl, Nat.zero_le _, rfl, Nat.le_refl _, World.ownsRow_nil _ _ _ _, rfl, Below.refl _ _⟩
      case round =>
        obtain ⟨k, m, vo, rfl, hk, rfl, hmk, HO, HM, HR⟩ := hrel
        clear c0
        by_cases hlt : k < N
        · have hk40 : k < 40 := by omega
          have q0 := (HR.out.cell (p := ⟨b, k, none⟩) hbq).trans (HAq.out.cell (i := k) (by rw [HCL.out]; omega))
          rw [HP.out k hk40] at q0
          have hbs : wq.heap.size ≤ wr.heap.size := HR.out.size
          obtain ⟨ao2, cap2, rfl⟩ := row_form HO.out
          cases hpk : p k with
          | true =>
            have HS : Hid (selL p (k + 1) = selL p k ++ [(k : Int)]) := selL_yes hpk
            rw [hpk] at q0
            clear hpk
            go_wp2_with (at_builtin; (refine wpList_append_lies _ rfl _ _ 26 rfl wq.heap.size 3 i0 _ 1 8 Try.underlying26 hi0 hz0 hz1 hz2 rfl (by omega) _ m (intC (selL p k)) rfl (HO.out.alloc _) ⟨wr.heap.size, 0, none⟩ 1 1 [.int .i64 k] rfl rfl (World.news_of_block (cs := #[.int .i64 k]) (t := 3) (fr := (0, 0)) (heap_alloc_new wr _)) (by simp [Value.oneCell']) (by omega) (by unfold maxLen; omega) (by omega) (by simp; omega) (wr.heap.size + 1) (by simp) ?_); intro g' cp w4 hown hgrow hat hlt4)
            have HN : Hid (w4.ownsRow wq.heap.size 3 1 (.slice (some ⟨g', 0, none⟩) (m + 1) cp) (m + 1) (intC (selL p (k + 1)))) := by
              show World.ownsRow _ _ _ _ _ _ _
              rw [HS.out, intC_append]
              exact hown
            have HBn := Lib.hid (row_below HO.out hgrow HR.out hbs)
            have HMn : Hid (m + 1 = (selL p (k + 1)).length) := by
              show _ = _
              rw [HS.out, List.length_append, ← HM.out]
              rfl
            clear hown hgrow hat hlt4
            go_roundw
            case rel => exact ⟨k + 1, m + 1, _, rfl, by omega, by go_num, by omega, HN, HMn, HBn⟩
            case measure => simp [intOf]; omega
          | false =>
            have HS : Hid (selL p (k + 1) = selL p k) := selL_no hpk
            rw [hpk] at q0
            clear hpk
            have HN : Hid (wr.ownsRow wq.heap.size 3 1 (.slice ao2 m cap2) m (intC (selL p (k + 1)))) := by
              show World.ownsRow _ _ _ _ _ _ _
              rw [HS.out]
              exact HO.out
            have HMn : Hid (m = (selL p (k + 1)).length) := by show _ = _; rw [HS.out]; exact HM.out
            go_wp2_with fail
            go_roundw
            case rel => exact ⟨k + 1, m, _, rfl, by omega, by go_num, by omega, HN, HMn, HR⟩
            case measure => simp [intOf]; omega
        · obtain rfl : k = N := by omega
          have HF : Hid (IntsAt wr vo (selL p k)) := ints_own HO.out HM.out.symm (by omega)
          have HBn := Lib.hid (HBq.out.trans (HR.out.mono HBq.out.size))
          go_wp2_with fail
          rw [← HQ.out]
          exact ⟨_, rfl, HF.out, HBn.out⟩
/-- Reach. -/
theorem reach_any {n : Int} {es : List Ed} {w : World} (v bv : Value) (hv : EdgesAt w v es) (bl : List Int) (hb : IntsAt w bv bl) (a : Int) :
    Calls Try.prog 22 #[.agg #[.int .i64 n, v], bv, .int .i64 a] w (RetInts (reachL n es bl a) w) := by
  unfold reachL
  cases h : rightB n es && nodeB n a with
  | false => exact reach_no v bv hv bl hb a h
  | true =>
    rw [Bool.and_eq_true] at h
    exact reach_yes v bv hv bl hb a (rightB_iff.1 h.1) h.2
end Go.Proofs.Ythmblgfcjbiomaa.Ly
