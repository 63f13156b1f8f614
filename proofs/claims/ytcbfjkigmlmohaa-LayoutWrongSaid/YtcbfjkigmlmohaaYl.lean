import Derived.Test.YtcbfjkigmlmohaaYk
/- The law LayoutStrong. -/
set_option linter.unusedVariables false
set_option linter.unusedSimpArgs false
namespace Go.Proofs.Ytcbfjkigmlmohaa.Ly
open Go.RowKit

theorem reach_eq {n : Int} {es : List Ed} (hr : RightL n es) {a : Int} (ha : nodeB n a = true) (bl : List Int) : reachL n es bl a = selL (fun (v : Nat) => wayB es bl a (v : Int)) n.toNat := by
  unfold reachL
  rw [rightB_true hr, ha]
  rfl
theorem mem_reach {n : Int} {es : List Ed} (hr : RightL n es) {a : Int} (ha : nodeB n a = true) {bl : List Int} {v : Int} : v ∈ reachL n es bl a ↔ nodeB n v = true ∧ Way es bl a v := by
  rw [reach_eq hr ha, mem_selL, nodeB_iff, wayB_iff]
  constructor
  · rintro ⟨h0, h1, h2⟩
    rw [Int.toNat_of_nonneg h0] at h2
    exact ⟨⟨h0, by omega⟩, h2⟩
  · rintro ⟨⟨h0, h1⟩, h2⟩
    exact ⟨h0, by omega, by rwa [Int.toNat_of_nonneg h0]⟩
theorem strong_iff {n : Int} {es : List Ed} (hr : RightL n es) : strongB n es = true ↔ (((reachL n es [] 0).length : Nat) : Int) = n ∧ ∀ i : Nat, (i : Int) < n → (0 : Int) ∈ reachL n es [] (i : Int) := by
  have h0 : nodeB n 0 = true := nodeB_iff.2 ⟨by omega, by have := hr.1; omega⟩
  have hn := hr.1
  have hl : (((reachL n es [] 0).length : Nat) : Int) = n ↔ ∀ v : Nat, v < n.toNat → Way es [] 0 v := by
    rw [reach_eq hr h0]
    have := selL_full (p := fun (v : Nat) => wayB es [] 0 (v : Int)) (k := n.toNat)
    constructor
    · intro h v hv
      exact wayB_iff.1 (this.1 (by omega) v hv)
    · intro h
      have := this.2 fun v hv => wayB_iff.2 (h v hv)
      omega
  rw [strongB_iff, hl]
  constructor
  · rintro ⟨_, h⟩
    exact ⟨fun v hv => h 0 (by omega) v hv, fun i hi => (mem_reach hr (nodeB_iff.2 ⟨by omega, hi⟩)).2 ⟨h0, h i (by omega) 0 (by omega)⟩⟩
  · rintro ⟨h1, h2⟩
    exact ⟨hr, fun a ha v hv => (((mem_reach hr (nodeB_iff.2 ⟨by omega, by omega⟩)).1 (h2 a (by omega))).2).trans (h1 v hv)⟩
theorem EdgesAt.form {w : World} {v : Value} {l : List Ed} (h : EdgesAt w v l) : ∃ ao cap, v = .slice ao l.length cap := by
  obtain ⟨ao, cap, h, _⟩ := h
  exact ⟨ao, cap, h⟩
theorem IntsAt.form {w : World} {v : Value} {l : List Int} (h : IntsAt w v l) : ∃ ao cap, v = .slice ao l.length cap := by
  obtain ⟨ao, cap, h, _⟩ := h
  exact ⟨ao, cap, h⟩
/-- Fit, with its number of nodes told as one of eight. -/
def RetFitE (w : World) (e : Ending) (w' : World) : Prop := ∃ n v es, e = .returned (.agg #[.int .i64 n, v]) ∧ 1 ≤ n ∧ n ≤ 8 ∧ RightL n es ∧ es.length ≤ 24 ∧ EdgesAt w' v es ∧ Below w.heap.size w w'
theorem fit_ex {w : World} (a : Int) (ha : i64B a) (rv : Value) (L : List Ed) (hL : EdgesAt w rv L) (hB : RawB L) : Calls Try.prog 11 #[.int .i64 a, rv] w (RetFitE w) :=
  (fit_any a ha rv L hL hB).mono fun e w' ⟨v, es, h1, h2, h3, h4, h5⟩ => ⟨_, v, es, h1, by have := pickS_nonneg (c := a) (n := 8) (by omega); omega, by have := pickS_lt (c := a) (n := 8) (by omega); omega, h2, h3, h4, h5⟩
theorem KX.start {w0 w : World} {n : Int} {v : Value} {es : List Ed} (hB : Below w0.heap.size w0 w) (h : EdgesAt w v es) : KX w0 (w.alloc (.cells #[.int .i64 n, v] 24)) w.heap.size n v es :=
  ⟨hB.alloc hB.size _, BoxAt.new n v w, h.below ((Below.refl _ _).alloc (Nat.le_refl _) _) (Nat.le_refl _)⟩
def IntsV (l : List Int) (z : Value) (w : World) : Prop := IntsAt w z l
theorem IntsV.stable (l : List Int) : Stable (IntsV l) := fun z w w' h hB => IntsAt.below h hB (Nat.le_refl _)
set_option maxRecDepth 100000 in
set_option maxHeartbeats 16000000 in
theorem lstrong_walk {w : World} (a : Int) (ha : i64B a) (rv : Value) (L : List Ed) (hL : EdgesAt w rv L) (hB : RawB L) :
    Calls Try.prog 6 #[.int .i64 a, rv] w (Ret (.bool true) w) := by
  have CF := Lib.hid (fun w' (h : EdgesAt w' rv L) => fit_ex a ha rv L h hB)
  have HL := Lib.hid hL
  clear ha hL hB
  obtain ⟨Q, HQ⟩ : ∃ Q, Hid (Ret (.bool true) w = Q) := ⟨_, rfl⟩
  rw [HQ.out]
  go_enter Try.func6, Try.ntmps6
  go_upto_region 3 with (first
    | (go_at_call 10; (with_reducible refine (awake_any _).mono ?_); rintro e w1 ⟨rfl, hb⟩; have HB1 := Lib.hid hb; have HL1 := Lib.hid (HL.out.below hb (Nat.le_refl _)); clear hb)
    | (go_at_call 11; (with_reducible refine (CF.out _ HL1.out).mono ?_); rintro e w2 ⟨n, v, es, rfl, n1, n8, hr, h24, hed, hb⟩; obtain ⟨eo, ec, rfl⟩ := hed.form; have HR := Lib.hid hr; have HK2 := Lib.hid (KX.start (n := n) (HB1.out.trans (hb.mono HB1.out.size)) hed); clear hr hed hb))
  rename_i K2 A2
  have CR := Lib.hid (fun w' (hu : EdgesAt w' (.slice eo es.length ec) es) => reach_any (n := n) (es := es) (w := w') _ (.slice none 0 0) hu [] (IntsAt.nil w' 0) 0)
  have CR2 := Lib.hid (fun w' (i : Int) (hu : EdgesAt w' (.slice eo es.length ec) es) => reach_any (n := n) (es := es) (w := w') _ (.slice none 0 0) hu [] (IntsAt.nil w' 0) i)
  have HSt := Lib.hid (strong_iff HR.out)
  obtain ⟨R, hR⟩ : ∃ R, reachL n es [] 0 = R := ⟨_, rfl⟩
  rw [hR] at CR HSt
  obtain ⟨b0, hb0⟩ : ∃ b, (((R.length : Nat) : Int) == n) = b := ⟨_, rfl⟩
  have HB0 := Lib.hid hb0
  have HBI : Hid (b0 = true ↔ ((R.length : Nat) : Int) = n) := by show _ ↔ _; rw [← hb0]; simp
  clear hb0 hR CF
  generalize hW : w2.alloc (.cells #[.int .i64 n, .slice eo es.length ec] 24) = wB at *
  clear hW
  refine wp_region_grow_all mixed (fun zs => { tmps := List.toArray (Value.int .i64 a :: rv :: undef :: undef :: Value.bool false :: Value.bool true :: Value.pointer (some ⟨w2.heap.size, 0, none⟩) :: zs.getD 6 undef :: undef :: Value.bool true :: Value.int .i64 a :: rv :: Value.agg #[Value.int .i64 n, Value.slice eo es.length ec] :: zs.getD 0 undef :: zs.getD 1 undef :: zs.getD 2 undef :: zs.getD 3 undef :: zs.getD 4 undef :: zs.getD 5 undef :: undef :: undef :: undef :: undef :: undef :: undef :: undef :: undef :: undef :: undef :: undef :: undef :: undef :: undef :: undef :: undef :: undef :: undef :: undef :: undef :: []), defers := [] }) [(fun z _ => z = Value.agg #[Value.int .i64 n, Value.slice eo es.length ec]), (IntsV R), (fun z _ => z = Value.int .i64 (R.length : Nat)), (fun z _ => z = Value.pointer (some ⟨w2.heap.size, 0, none⟩)), (fun z _ => z = Value.int .i64 n), (fun z _ => z = Value.bool b0), (fun z _ => z = Value.bool b0)] [undef, undef, undef, undef, undef, undef, undef] rfl rfl rfl ?_ (by kernel_rfl) ?_ ?_
  · intro p hp
    simp only [List.mem_cons, List.not_mem_nil, or_false] at hp
    rcases hp with rfl | rfl | rfl | rfl | rfl | rfl | rfl
    all_goals first | exact stable_eq _ | exact IntsV.stable _
  · intro i hi zs l wz o hz hF ho hpre
    have hi' : i < 7 := hi
    clear A2
    have HZ := Lib.hid (HK2.out.grow hF.bel)
    have c0 := HZ.out.box.c0
    have c1 := HZ.out.box.c1
    match zs, (show zs.length = 7 from hz) with
    | z0 :: z1 :: z2 :: z3 :: z4 :: z5 :: z6 :: [], _ =>
      clear hz hi
      change wpOp _ _ _ _ _ { tmps := List.toArray (Value.int .i64 a :: rv :: undef :: undef :: Value.bool false :: Value.bool true :: Value.pointer (some ⟨w2.heap.size, 0, none⟩) :: z6 :: undef :: Value.bool true :: Value.int .i64 a :: rv :: Value.agg #[Value.int .i64 n, Value.slice eo es.length ec] :: z0 :: z1 :: z2 :: z3 :: z4 :: z5 :: undef :: undef :: undef :: undef :: undef :: undef :: undef :: undef :: undef :: undef :: undef :: undef :: undef :: undef :: undef :: undef :: undef :: undef :: undef :: undef :: []), defers := [] } _
      have hc : i = 0 ∨ i = 1 ∨ i = 2 ∨ i = 3 ∨ i = 4 ∨ i = 5 ∨ i = 6 := by omega
      clear hi'
      rcases hc with rfl | rfl | rfl | rfl | rfl | rfl | rfl
      · clear ho hpre
        refine wpOp_here rfl (fun K' hK => ?_)
        go_simp
        exact hK _ _ ⟨_, rfl, Below.refl _ _, fun p hp => by cases (show some (fun z _ => z = Value.agg #[Value.int .i64 n, Value.slice eo es.length ec]) = some p from hp); exact rfl⟩
      · have p0 := hF.fact 0 _ _ rfl rfl (hpre ⟨0, .data⟩ (by cases ho; simp) rfl)
        subst p0
        clear ho hpre
        refine wpOp_here rfl (fun K' hK => ?_)
        go_simp
        refine (CR.out _ HZ.out.ed).mono ?_
        rintro e6 w6' ⟨v6, rfl, hv6, hb6⟩
        exact hK _ _ ⟨_, rfl, hb6, fun p hp => by cases (show some (IntsV R) = some p from hp); exact hv6⟩
      · have p1 := hF.fact 1 _ _ rfl rfl (hpre ⟨1, .data⟩ (by cases ho; simp) rfl)
        obtain ⟨ao1, ac1, rfl⟩ := IntsAt.form p1
        clear ho hpre
        refine wpOp_here rfl (fun K' hK => ?_)
        go_simp
        exact hK _ _ ⟨_, rfl, Below.refl _ _, fun p hp => by cases (show some (fun z _ => z = Value.int .i64 (R.length : Nat)) = some p from hp); exact rfl⟩
      · clear ho hpre
        refine wpOp_here rfl (fun K' hK => ?_)
        go_simp
        exact hK _ _ ⟨_, rfl, Below.refl _ _, fun p hp => by cases (show some (fun z _ => z = Value.pointer (some ⟨w2.heap.size, 0, none⟩)) = some p from hp); exact rfl⟩
      · have p3 := hF.fact 3 _ _ rfl rfl (hpre ⟨3, .data⟩ (by cases ho; simp) rfl)
        subst p3
        clear ho hpre
        refine wpOp_here rfl (fun K' hK => ?_)
        go_simp
        exact hK _ _ ⟨_, rfl, Below.refl _ _, fun p hp => by cases (show some (fun z _ => z = Value.int .i64 n) = some p from hp); exact rfl⟩
      · have p2 := hF.fact 2 _ _ rfl rfl (hpre ⟨2, .data⟩ (by cases ho; simp) rfl)
        subst p2
        have p4 := hF.fact 4 _ _ rfl rfl (hpre ⟨4, .data⟩ (by cases ho; simp) rfl)
        subst p4
        clear ho hpre
        refine wpOp_here rfl (fun K' hK => ?_)
        go_simp
        rw [HB0.out]
        exact hK _ _ ⟨_, rfl, Below.refl _ _, fun p hp => by cases (show some (fun z _ => z = Value.bool b0) = some p from hp); exact rfl⟩
      · have p5 := hF.fact 5 _ _ rfl rfl (hpre ⟨5, .data⟩ (by cases ho; simp) rfl)
        subst p5
        clear ho hpre
        refine wpOp_here rfl (fun K' hK => ?_)
        go_simp
        exact hK _ _ ⟨_, rfl, Below.refl _ _, fun p hp => by cases (show some (fun z _ => z = Value.bool b0) = some p from hp); exact rfl⟩
  · intro zs wz hz hbel hev
    match zs, (show zs.length = 7 from hz) with
    | z0 :: z1 :: z2 :: z3 :: z4 :: z5 :: z6 :: [], _ =>
      have p0 := hev 0 _ _ rfl rfl
      have p1 := hev 1 _ _ rfl rfl
      have p2 := hev 2 _ _ rfl rfl
      have p3 := hev 3 _ _ rfl rfl
      have p4 := hev 4 _ _ rfl rfl
      have p5 := hev 5 _ _ rfl rfl
      have p6 := hev 6 _ _ rfl rfl
      subst p0 p2 p3 p4 p5 p6
      clear hz hev
      change Exit.then _ _ .normal { tmps := List.toArray (Value.int .i64 a :: rv :: undef :: undef :: Value.bool false :: Value.bool true :: Value.pointer (some ⟨w2.heap.size, 0, none⟩) :: Value.bool b0 :: undef :: Value.bool true :: Value.int .i64 a :: rv :: Value.agg #[Value.int .i64 n, Value.slice eo es.length ec] :: Value.agg #[Value.int .i64 n, Value.slice eo es.length ec] :: z1 :: Value.int .i64 (R.length : Nat) :: Value.pointer (some ⟨w2.heap.size, 0, none⟩) :: Value.int .i64 n :: Value.bool b0 :: undef :: undef :: undef :: undef :: undef :: undef :: undef :: undef :: undef :: undef :: undef :: undef :: undef :: undef :: undef :: undef :: undef :: undef :: undef :: undef :: []), defers := [] } _
      have HKz := Lib.hid (HK2.out.grow hbel)
      generalize w2.heap.size = bx at *
      clear hbel CR p1
      refine A2 _ _ ?_
      go_wp2_with fail
      go_loopw [7, 8] (fun mo i wr => ∃ (k : Nat) (b : Bool), mo = .bool b ∧ (k : Int) ≤ n ∧ i = .int .i64 k ∧ Hid (KX w wr bx n (.slice eo es.length ec) es) ∧ Hid (b = true ↔ b0 = true ∧ ∀ j : Nat, j < k → (0 : Int) ∈ reachL n es [] (j : Int))) (fun _ i _ => n.toNat - (intOf i).toNat)
      case atStart => exact ⟨0, b0, rfl, by omega, rfl, HKz, ⟨fun h => ⟨h, fun j hj => absurd hj (by omega)⟩, fun h => h.1⟩⟩
      case round =>
        obtain ⟨k, b, rfl, hk, rfl, HKr, HIf⟩ := hrel
        have c0 := HKr.out.box.c0
        have c1 := HKr.out.box.c1
        by_cases hlt : (k : Int) < n
        · cases b with
          | false =>
            have HN : Hid (false = true ↔ b0 = true ∧ ∀ j : Nat, j < k + 1 → (0 : Int) ∈ reachL n es [] (j : Int)) :=
              ⟨fun h => (by cases h), fun h => HIf.out.2 ⟨h.1, fun j hj => h.2 j (by omega)⟩⟩
            go_wp2_with fail
            go_roundw
            case rel => exact ⟨k + 1, false, rfl, by omega, by go_num, HKr, HN⟩
            case measure => simp [intOf]; omega
          | true =>
            obtain ⟨t, ht⟩ : ∃ t, decide ((0 : Int) ∈ reachL n es [] (k : Int)) = t := ⟨_, rfl⟩
            have HN : Hid (t = true ↔ b0 = true ∧ ∀ j : Nat, j < k + 1 → (0 : Int) ∈ reachL n es [] (j : Int)) := by
              show _ ↔ _
              rw [← ht, decide_eq_true_iff]
              obtain ⟨y, z⟩ := HIf.out.1 rfl
              constructor
              · intro h
                refine ⟨y, fun j hj => ?_⟩
                by_cases e : j = k
                · subst e; exact h
                · exact z j (by omega)
              · intro h
                exact h.2 k (by omega)
            have CRk := Lib.hid (CR2.out _ (k : Int) HKr.out.ed)
            generalize reachL n es [] (k : Int) = Rk at *
            have CH := Lib.hid (fun w' u (hu : IntsAt w' u Rk) => has_any Rk 0 u w' hu t ht)
            clear ht
            go_wp2_with (first
              | (go_at_call 18; (with_reducible refine (CRk.out).mono ?_); rintro e w5 ⟨v5, rfl, hv5, hb⟩; have HK5 := Lib.hid (HKr.out.grow hb); have HV5 := Lib.hid hv5; clear hb hv5)
              | (go_at_call 24; (with_reducible refine (CH.out _ _ HV5.out).mono ?_); rintro e w6 ⟨rfl, rfl⟩))
            go_roundw
            case rel => exact ⟨k + 1, t, rfl, by omega, by go_num, HK5, HN⟩
            case measure => simp [intOf]; omega
        · have HE : Hid (strongB n es = b) := by
            show _ = _
            rw [Bool.eq_iff_iff, HSt.out, HIf.out, HBI.out]
            exact ⟨fun h => ⟨h.1, fun j hj => h.2 j (by omega)⟩, fun h => ⟨h.1, fun j hj => h.2 j (by omega)⟩⟩
          have CS := Lib.hid (strong_any (n := n) (es := es) (w := wr) _ HKr.out.ed b HE.out)
          go_wp2_with (go_at_call 22; (with_reducible refine (CS.out).mono ?_); rintro e w7 ⟨rfl, hb⟩; have HK7 := Lib.hid (HKr.out.grow hb); clear hb)
          rw [← HQ.out]
          exact ⟨ret_bool (by simp), HK7.out.below⟩
/-- As the row hands it over. -/
theorem lstrong_row (a : Int) (rv : Value) (L : List Ed) (w : World) (h0 : -9223372036854775808 ≤ a) (h1 : a ≤ 9223372036854775807) (hL : EdgesAt w rv L ∧ RawB L) : Calls Try.prog 6 #[.int .i64 a, rv] w (Ret (.bool true) w) := lstrong_walk a ⟨h0, h1⟩ rv L hL.1 hL.2
end Go.Proofs.Ytcbfjkigmlmohaa.Ly
