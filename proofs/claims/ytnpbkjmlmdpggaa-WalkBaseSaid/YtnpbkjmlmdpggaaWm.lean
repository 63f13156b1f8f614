import Derived.Test.YtnpbkjmlmdpggaaWk
import Derived.Test.YtnpbkjmlmdpggaaWl
/- Follows. -/
set_option linter.unusedVariables false
set_option linter.unusedSimpArgs false
namespace Go.Proofs.Ytnpbkjmlmdpggaa.Wk
open Go.RowKit Ly Od

theorem ret_bool' {a b : Bool} (h : a = b) : Ending.returned (.bool a) = .returned (.bool b) := by rw [h]
theorem getD_mem {l : List St} {k : Nat} (h : k < l.length) : l.getD k st0 ∈ l := by rw [List.getD_eq_getElem?_getD, List.getElem?_eq_getElem h]; exact List.getElem_mem _
theorem headD_getD (l : List St) : l.headD st0 = l.getD 0 st0 := by cases l <;> rfl
/-- In a right order the first node is released. -/
theorem base_pos {nm : List UInt8 → Bool} {x : O} (h : rightO nm x = true) : 1 ≤ baseO x ∧ baseO x ≤ x.ns.length := by
  refine ⟨?_, List.length_filter_le _ _⟩
  unfold rightO at h
  simp only [Bool.and_eq_true, decide_eq_true_eq] at h
  obtain ⟨_, _, _, _, h1, _, _, _, hh, _⟩ := h
  unfold baseO
  obtain ⟨hd, vn, oi, ui, ns, es⟩ := x
  simp only at h1 hh ⊢
  rcases ns with _ | ⟨a, t⟩
  · simp at h1
  · rw [List.filter_cons, show a.rel = true by simpa using hh]
    simp
/-- Both orders' boxes, and what is around them. -/
structure FB (w w2 : World) (an ae bn be : Option Addr) (cn ce cn' ce' : Nat) (a b : O) : Prop where
  size : w.heap.size + 2 ≤ w2.heap.size
  bel : Below w.heap.size w w2
  a0 : w2.cell? ⟨w.heap.size, 0, none⟩ = some (.int .i64 a.h)
  a1 : w2.cell? ⟨w.heap.size, 1, none⟩ = some (.string ⟨a.v.toArray⟩)
  a2 : w2.cell? ⟨w.heap.size, 2, none⟩ = some (.int .i64 a.o)
  a3 : w2.cell? ⟨w.heap.size, 3, none⟩ = some (.int .i64 a.u)
  a4 : w2.cell? ⟨w.heap.size, 4, none⟩ = some (.slice an a.ns.length cn)
  a5 : w2.cell? ⟨w.heap.size, 5, none⟩ = some (.slice ae a.es.length ce)
  b0 : w2.cell? ⟨w.heap.size + 1, 0, none⟩ = some (.int .i64 b.h)
  b1 : w2.cell? ⟨w.heap.size + 1, 1, none⟩ = some (.string ⟨b.v.toArray⟩)
  b2 : w2.cell? ⟨w.heap.size + 1, 2, none⟩ = some (.int .i64 b.o)
  b3 : w2.cell? ⟨w.heap.size + 1, 3, none⟩ = some (.int .i64 b.u)
  b4 : w2.cell? ⟨w.heap.size + 1, 4, none⟩ = some (.slice bn b.ns.length cn')
  b5 : w2.cell? ⟨w.heap.size + 1, 5, none⟩ = some (.slice be b.es.length ce')
theorem FB.new (w : World) (an ae bn be : Option Addr) (cn ce cn' ce' : Nat) (a b : O) : ∃ w2, (w.alloc (.cells (oC a.h a.v a.o a.u (.slice an a.ns.length cn) (.slice ae a.es.length ce)) 25)).alloc (.cells (oC b.h b.v b.o b.u (.slice bn b.ns.length cn') (.slice be b.es.length ce')) 25) = w2 ∧ FB w w2 an ae bn be cn ce cn' ce' a b := by
  obtain ⟨h1, h2, h3, h4⟩ := two_cells w (oC a.h a.v a.o a.u (.slice an a.ns.length cn) (.slice ae a.es.length ce)) (oC b.h b.v b.o b.u (.slice bn b.ns.length cn') (.slice be b.es.length ce')) 25 25 rfl
  exact ⟨_, rfl, by omega, h1, (h3 0 _ rfl).1, (h3 1 _ rfl).1, (h3 2 _ rfl).1, (h3 3 _ rfl).1, (h3 4 _ rfl).1, (h3 5 _ rfl).1, (h4 0 _ rfl).1, (h4 1 _ rfl).1, (h4 2 _ rfl).1, (h4 3 _ rfl).1, (h4 4 _ rfl).1, (h4 5 _ rfl).1⟩
theorem FB.grow {w w2 w3 : World} {an ae bn be : Option Addr} {cn ce cn' ce' : Nat} {a b : O} (h : FB w w2 an ae bn be cn ce cn' ce' a b) (hb : Below w2.heap.size w2 w3) : FB w w3 an ae bn be cn ce cn' ce' a b := by
  have k : ∀ {i j : Nat} {v : Value}, w2.cell? ⟨i, j, none⟩ = some v → w3.cell? ⟨i, j, none⟩ = some v := fun hc => (hb.cell (p := ⟨_, _, none⟩) (cell_lt hc)).trans hc
  exact ⟨Nat.le_trans h.size hb.size, h.bel.trans (hb.mono h.bel.size), k h.a0, k h.a1, k h.a2, k h.a3, k h.a4, k h.a5, k h.b0, k h.b1, k h.b2, k h.b3, k h.b4, k h.b5⟩
set_option maxHeartbeats 8000000 in
set_option maxRecDepth 100000 in
theorem follows_any {S S' : Nat → Prop} {a b : O} {w : World} (av bv : Value) (ha : OAt S w av a) (hb : OAt S' w bv b) :
    Calls Try.prog 24 #[av, bv] w (Ret (.bool (followsS Tp.nameB a b)) w) := by
  obtain ⟨Q, HQ⟩ : ∃ Q, Hid (Ret (.bool (followsS Tp.nameB a b)) w = Q) := ⟨_, rfl⟩
  rw [HQ.out]
  have HA := Lib.hid ha.any
  have HB := Lib.hid hb.any
  obtain ⟨an, cn, ae, ce, rfl, -, -, -, -, hNa, -⟩ := ha.open_
  obtain ⟨bn, cn', be, ce', rfl, -, -, -, -, hNb, -⟩ := hb.open_
  obtain ⟨w2, hWE, hF⟩ := FB.new w an ae bn be cn ce cn' ce' a b
  have HF := Lib.hid hF
  have HA2 := Lib.hid (HA.out.below hF.bel (Nat.le_refl _))
  have HB2 := Lib.hid (HB.out.below hF.bel (Nat.le_refl _))
  have HNA := Lib.hid (hNa.any.below hF.bel (Nat.le_refl _))
  have HNB := Lib.hid (hNb.any.below hF.bel (Nat.le_refl _))
  have CA := Lib.hid (fun w' (hb : Below w2.heap.size w2 w') => Od.right_any Js.Any _ a _ (HA2.out.below hb (Nat.le_refl _)))
  have CB := Lib.hid (fun w' (hb : Below w2.heap.size w2 w') => Od.right_any Js.Any _ b _ (HB2.out.below hb (Nat.le_refl _)))
  have CN := Lib.hid (fun w' (hb : Below w2.heap.size w2 w') => base8_any Js.Any _ a w' (HA2.out.below hb (Nat.le_refl _)))
  have HWE := Lib.hid hWE
  unfold oC at HWE
  have x0 := hF.a0; have x1 := hF.a1; have x2 := hF.a2; have x3 := hF.a3; have x4 := hF.a4; have x5 := hF.a5
  have hlt := hF.size
  clear ha hb hNa hNb hF hWE
  unfold followsS at HQ
  cases hra : rightO Tp.nameB a with
  | false =>
    rw [hra] at CA HQ
    go_enter Try.func24, Try.ntmps24
    go_upto_region 1 with fail
    rw [HWE.out]
    go_wp2_with (go_at_call 34; (with_reducible refine (CA.out _ (Below.refl _ _)).mono ?_); rintro e1 w3 ⟨rfl, hb1⟩; have HF3 := Lib.hid (HF.out.grow hb1); clear hb1)
    rw [← HQ.out]
    exact ⟨ret_bool' rfl, HF3.out.bel⟩
  | true =>
    rw [hra] at CA HQ
    cases hrb : rightO Tp.nameB b with
    | false =>
      rw [hrb] at CB HQ
      go_enter Try.func24, Try.ntmps24
      go_upto_region 1 with fail
      rw [HWE.out]
      go_wp2_with (first
        | (go_at_call 34; (with_reducible refine (CA.out _ (Below.refl _ _)).mono ?_); rintro e1 w3 ⟨rfl, hb1⟩; have HF3 := Lib.hid (HF.out.grow hb1); have HB3 := Lib.hid hb1; clear x0 x1 x2 x3 x4 x5 hlt; have x0 := HF3.out.b0; have x1 := HF3.out.b1; have x2 := HF3.out.b2; have x3 := HF3.out.b3; have x4 := HF3.out.b4; have x5 := HF3.out.b5; clear hb1)
        | (go_at_call 34; (with_reducible refine (CB.out _ HB3.out).mono ?_); rintro e2 w4 ⟨rfl, hb2⟩; have HF4 := Lib.hid (HF3.out.grow hb2); have HB4 := Lib.hid (HB3.out.trans (hb2.mono HB3.out.size)); clear x0 x1 x2 x3 x4 x5; have x0 := HF4.out.b0; have x1 := HF4.out.b1; have x2 := HF4.out.b2; have x3 := HF4.out.b3; have x4 := HF4.out.b4; have y0 := HF4.out.a0; have y1 := HF4.out.a1; have y2 := HF4.out.a2; have y3 := HF4.out.a3; have y4 := HF4.out.a4; clear hb2))
      rw [← HQ.out]
      exact ⟨ret_bool' rfl, HF4.out.bel⟩
    | true =>
      rw [hrb] at CB HQ
      by_cases hv : a.v = b.v
      · rw [show decide (a.v = b.v) = true by simpa using hv] at HQ
        have HV := Lib.hid hv
        clear hv
        by_cases hh : a.h < b.h
        · rw [show decide (a.h < b.h) = true by simpa using hh] at HQ
          have hh1 : decide (b.h ≤ a.h) = false := by simp; omega
          by_cases ho : a.o = b.o
          · rw [if_pos ho, headD_getD] at HQ
            have HOO := Lib.hid ho
            clear ho
            obtain ⟨hb1, hb2⟩ := base_pos hra
            obtain ⟨fn1, fn2, -, -⟩ := right_lens hrb
            unfold lastR at HQ
            obtain ⟨M, hM⟩ : ∃ M, baseO a = M := ⟨_, rfl⟩
            rw [hM] at CN HQ hb1 hb2
            obtain ⟨m, hm⟩ : ∃ m, M - 1 = m := ⟨_, rfl⟩
            rw [hm] at HQ
            have hrel : (b.ns.getD 0 st0).rel = true := by
              have h := hrb
              unfold rightO at h
              simp only [Bool.and_eq_true, headD_getD] at h
              exact h.2.2.2.2.2.2.2.2.1
            obtain ⟨ab, af, rfl, -, hab, -, u0, u1, u2⟩ := HNA.out.at_ (k := m) (by omega)
            obtain ⟨bb, bf, rfl, -, hbb, -, v0, v1, v2⟩ := HNB.out.at_ (k := 0) (by omega)
            rw [Nat.zero_mul, Nat.add_zero] at v0 v1 v2
            have hn1 : (m : Int) < (a.ns.length : Int) := by omega
            have hn2 : (0 : Int) < (b.ns.length : Int) := by omega
            have hn3 : 0 < b.ns.length := by omega
            have hw1 : IntKind.i64.wrap ((M : Int) - 1) = (m : Int) := by rw [show ((M : Int) - 1) = (m : Int) by omega]; exact IntWalk.i64_in _ (by have := (HNA.out.len).2.2; omega)
            generalize (a.ns.getD m st0).id = ai at *
            generalize (a.ns.getD m st0).seq = aq at *
            generalize (a.ns.getD m st0).rel = ar at *
            generalize (b.ns.getD 0 st0).id = bi at *
            generalize (b.ns.getD 0 st0).seq = bq at *
            rw [hrel] at v2
            clear hrel
            go_enter Try.func24, Try.ntmps24
            go_upto_region 1 with fail
            rw [HWE.out]
            go_upto_region 5 with (first
              | (go_at_call 34; (with_reducible refine (CA.out _ (Below.refl _ _)).mono ?_); rintro e1 w3 ⟨rfl, hb1⟩; have HF3 := Lib.hid (HF.out.grow hb1); have HB3 := Lib.hid hb1; clear x0 x1 x2 x3 x4 x5 hlt; have x0 := HF3.out.b0; have x1 := HF3.out.b1; have x2 := HF3.out.b2; have x3 := HF3.out.b3; have x4 := HF3.out.b4; have x5 := HF3.out.b5; clear hb1)
              | (go_at_call 34; (with_reducible refine (CB.out _ HB3.out).mono ?_); rintro e2 w4 ⟨rfl, hb2⟩; have HF4 := Lib.hid (HF3.out.grow hb2); have HB4 := Lib.hid (HB3.out.trans (hb2.mono HB3.out.size)); clear x0 x1 x2 x3 x4 x5; have x0 := HF4.out.b0; have x1 := HF4.out.b1; have x2 := HF4.out.b2; have x3 := HF4.out.b3; have x4 := HF4.out.b4; have y0 := HF4.out.a0; have y1 := HF4.out.a1; rw [HV.out] at y1; have y2 := HF4.out.a2; rw [HOO.out] at y2; have y3 := HF4.out.a3; have y4 := HF4.out.a4; clear hb2))
            rename_i KK AA
            clear x0 x1 x2 x3 x4 y0 y1 y2 y3 y4 hh hh1 HWE CA CB HF HF3 HB3 HA2 HB2 HA HB HNA HNB hra hrb hM hm
            refine wp_region_store mixed (fun zs => { tmps := List.toArray (Value.agg #[Value.int .i64 a.h, Value.string ⟨a.v.toArray⟩, Value.int .i64 a.o, Value.int .i64 a.u, Value.slice (some ⟨ab, af, none⟩) a.ns.length cn, Value.slice ae a.es.length ce] :: Value.agg #[Value.int .i64 b.h, Value.string ⟨b.v.toArray⟩, Value.int .i64 b.o, Value.int .i64 b.u, Value.slice (some ⟨bb, bf, none⟩) b.ns.length cn', Value.slice be b.es.length ce'] :: Value.pointer (some ⟨w.heap.size, 0, none⟩) :: Value.pointer (some ⟨w.heap.size + 1, 0, none⟩) :: Value.bool false :: zs.getD 11 undef :: zs.getD 12 undef :: Value.agg #[Value.int .i64 a.h, Value.string ⟨a.v.toArray⟩, Value.int .i64 a.o, Value.int .i64 a.u, Value.slice (some ⟨ab, af, none⟩) a.ns.length cn, Value.slice ae a.es.length ce] :: Value.bool true :: Value.bool false :: Value.bool false :: Value.agg #[Value.int .i64 b.h, Value.string ⟨b.v.toArray⟩, Value.int .i64 b.o, Value.int .i64 b.u, Value.slice (some ⟨bb, bf, none⟩) b.ns.length cn', Value.slice be b.es.length ce'] :: Value.bool true :: Value.bool false :: Value.bool false :: Value.bool false :: Value.pointer (some ⟨w.heap.size, 1, none⟩) :: Value.string ⟨b.v.toArray⟩ :: Value.pointer (some ⟨w.heap.size + 1, 1, none⟩) :: Value.string ⟨b.v.toArray⟩ :: Value.bool false :: Value.bool false :: Value.bool false :: Value.pointer (some ⟨w.heap.size + 1, 0, none⟩) :: Value.int .i64 b.h :: Value.pointer (some ⟨w.heap.size, 0, none⟩) :: Value.int .i64 a.h :: Value.bool false :: Value.bool false :: Value.pointer (some ⟨w.heap.size, 2, none⟩) :: Value.int .i64 b.o :: Value.pointer (some ⟨w.heap.size + 1, 2, none⟩) :: Value.int .i64 b.o :: Value.bool false :: undef :: undef :: undef :: zs.getD 0 undef :: zs.getD 1 undef :: zs.getD 2 undef :: zs.getD 3 undef :: zs.getD 4 undef :: zs.getD 5 undef :: zs.getD 6 undef :: zs.getD 7 undef :: zs.getD 8 undef :: zs.getD 9 undef :: zs.getD 10 undef :: undef :: undef :: undef :: undef :: undef :: undef :: undef :: undef :: undef :: undef :: undef :: undef :: undef :: undef :: undef :: undef :: undef :: undef :: undef :: []), defers := [] }) [(fun z _ => z = Value.pointer (some ⟨w.heap.size + 1, 4, none⟩)), (fun z _ => z = Value.slice (some ⟨bb, bf, none⟩) b.ns.length cn'), (fun z _ => z = Value.pointer (some ⟨bb, bf, none⟩)), (fun z _ => z = Value.agg #[Value.int .i64 bi, Value.int .i64 bq, Value.bool true]), (fun z _ => z = Value.pointer (some ⟨w.heap.size, 4, none⟩)), (fun z _ => z = Value.slice (some ⟨ab, af, none⟩) a.ns.length cn), (fun z _ => z = Value.agg #[Value.int .i64 a.h, Value.string ⟨a.v.toArray⟩, Value.int .i64 a.o, Value.int .i64 a.u, Value.slice (some ⟨ab, af, none⟩) a.ns.length cn, Value.slice ae a.es.length ce]), (fun z _ => z = Value.int .i64 (M : Int)), (fun z _ => z = Value.int .i64 (m : Int)), (fun z _ => z = Value.pointer (some ⟨ab, af + m * 3, none⟩)), (fun z _ => z = Value.agg #[Value.int .i64 ai, Value.int .i64 aq, Value.bool ar]), (NewB w4.heap.size 52 #[Value.int .i64 0, Value.int .i64 0, Value.bool false]), (NewB w4.heap.size 52 #[Value.int .i64 0, Value.int .i64 0, Value.bool false]), (fun _ _ => True)] [(fun z _ => z = Value.pointer (some ⟨w.heap.size + 1, 4, none⟩)), (fun z _ => z = Value.slice (some ⟨bb, bf, none⟩) b.ns.length cn'), (fun z _ => z = Value.pointer (some ⟨bb, bf, none⟩)), (fun z _ => z = Value.agg #[Value.int .i64 bi, Value.int .i64 bq, Value.bool true]), (fun z _ => z = Value.pointer (some ⟨w.heap.size, 4, none⟩)), (fun z _ => z = Value.slice (some ⟨ab, af, none⟩) a.ns.length cn), (fun z _ => z = Value.agg #[Value.int .i64 a.h, Value.string ⟨a.v.toArray⟩, Value.int .i64 a.o, Value.int .i64 a.u, Value.slice (some ⟨ab, af, none⟩) a.ns.length cn, Value.slice ae a.es.length ce]), (fun z _ => z = Value.int .i64 (M : Int)), (fun z _ => z = Value.int .i64 (m : Int)), (fun z _ => z = Value.pointer (some ⟨ab, af + m * 3, none⟩)), (fun z _ => z = Value.agg #[Value.int .i64 ai, Value.int .i64 aq, Value.bool ar]), (NewB w4.heap.size 52 #[Value.int .i64 bi, Value.int .i64 bq, Value.bool true]), (NewB w4.heap.size 52 #[Value.int .i64 0, Value.int .i64 0, Value.bool false]), (fun _ _ => True)] [undef, undef, undef, undef, undef, undef, undef, undef, undef, undef, undef, undef, undef, undef] 13 [4, 5, 6, 8, 9, 10] [11, 12] rfl rfl rfl rfl (fun zs v => by simp [List.getD_eq_getElem?_getD, List.getElem?_set]) ?_ ?_ (fun p h z w => by cases (show some (fun _ _ => True) = some p from h); trivial) (by kernel_rfl) (show 13 < 14 by decide) ?_ ?_ (by kernel_rfl) (by kernel_rfl) ?_ ?_ ?_ ?_
            · intro p hp
              simp only [List.mem_cons, List.not_mem_nil, or_false] at hp
              rcases hp with rfl | rfl | rfl | rfl | rfl | rfl | rfl | rfl | rfl | rfl | rfl | rfl | rfl | rfl
              all_goals first | exact stable_eq _ | exact stable_true | exact NewB.stable _ _ _
            · intro p hp
              simp only [List.mem_cons, List.not_mem_nil, or_false] at hp
              rcases hp with rfl | rfl | rfl | rfl | rfl | rfl | rfl | rfl | rfl | rfl | rfl | rfl | rfl | rfl
              all_goals first | exact stable_eq _ | exact stable_true | exact NewB.stable _ _ _
            · intro i hi
              simp only [List.mem_cons, List.not_mem_nil, or_false] at hi
              rcases hi with rfl | rfl
              all_goals exact ⟨by show _ < 14; omega, by decide, by decide⟩
            · intro i hi p hp z wz hz
              simp only [List.mem_cons, List.not_mem_nil, or_false] at hi
              rcases hi with rfl | rfl
              · cases (show some (NewB w4.heap.size 52 #[Value.int .i64 0, Value.int .i64 0, Value.bool false]) = some p from hp); exact NewB.lt hz
              · cases (show some (NewB w4.heap.size 52 #[Value.int .i64 0, Value.int .i64 0, Value.bool false]) = some p from hp); exact NewB.lt hz
            · intro i hi hiS zs l wz o hz hF ho hpre
              have hi' : i < 14 ∧ i ≠ 13 := ⟨hi, hiS⟩
              clear hi hiS
              clear AA
              have HBZ := Lib.hid hF.bel
              have HZ := Lib.hid (HF4.out.grow hF.bel)
              have x4 := HZ.out.b4
              have y0 := HZ.out.a0
              have y1 := HZ.out.a1
              have y2 := HZ.out.a2
              have y3 := HZ.out.a3
              have y4 := HZ.out.a4
              have y5 := HZ.out.a5
              have HW := Lib.hid (HB4.out.trans (hF.bel.mono HB4.out.size))
              have t3 := (HW.out.cell (p := ⟨bb, _, none⟩) hbb).trans v0
              have t4 := (HW.out.cell (p := ⟨bb, _, none⟩) hbb).trans v1
              have t5 := (HW.out.cell (p := ⟨bb, _, none⟩) hbb).trans v2
              have t0 := (HW.out.cell (p := ⟨ab, _, none⟩) hab).trans u0
              have t1 := (HW.out.cell (p := ⟨ab, _, none⟩) hab).trans u1
              have t2 := (HW.out.cell (p := ⟨ab, _, none⟩) hab).trans u2
              match zs, (show zs.length = 14 from hz) with
              | z0 :: z1 :: z2 :: z3 :: z4 :: z5 :: z6 :: z7 :: z8 :: z9 :: z10 :: z11 :: z12 :: z13 :: [], _ =>
                clear hz
                change wpOp _ _ _ _ _ { tmps := List.toArray (Value.agg #[Value.int .i64 a.h, Value.string ⟨a.v.toArray⟩, Value.int .i64 a.o, Value.int .i64 a.u, Value.slice (some ⟨ab, af, none⟩) a.ns.length cn, Value.slice ae a.es.length ce] :: Value.agg #[Value.int .i64 b.h, Value.string ⟨b.v.toArray⟩, Value.int .i64 b.o, Value.int .i64 b.u, Value.slice (some ⟨bb, bf, none⟩) b.ns.length cn', Value.slice be b.es.length ce'] :: Value.pointer (some ⟨w.heap.size, 0, none⟩) :: Value.pointer (some ⟨w.heap.size + 1, 0, none⟩) :: Value.bool false :: z11 :: z12 :: Value.agg #[Value.int .i64 a.h, Value.string ⟨a.v.toArray⟩, Value.int .i64 a.o, Value.int .i64 a.u, Value.slice (some ⟨ab, af, none⟩) a.ns.length cn, Value.slice ae a.es.length ce] :: Value.bool true :: Value.bool false :: Value.bool false :: Value.agg #[Value.int .i64 b.h, Value.string ⟨b.v.toArray⟩, Value.int .i64 b.o, Value.int .i64 b.u, Value.slice (some ⟨bb, bf, none⟩) b.ns.length cn', Value.slice be b.es.length ce'] :: Value.bool true :: Value.bool false :: Value.bool false :: Value.bool false :: Value.pointer (some ⟨w.heap.size, 1, none⟩) :: Value.string ⟨b.v.toArray⟩ :: Value.pointer (some ⟨w.heap.size + 1, 1, none⟩) :: Value.string ⟨b.v.toArray⟩ :: Value.bool false :: Value.bool false :: Value.bool false :: Value.pointer (some ⟨w.heap.size + 1, 0, none⟩) :: Value.int .i64 b.h :: Value.pointer (some ⟨w.heap.size, 0, none⟩) :: Value.int .i64 a.h :: Value.bool false :: Value.bool false :: Value.pointer (some ⟨w.heap.size, 2, none⟩) :: Value.int .i64 b.o :: Value.pointer (some ⟨w.heap.size + 1, 2, none⟩) :: Value.int .i64 b.o :: Value.bool false :: undef :: undef :: undef :: z0 :: z1 :: z2 :: z3 :: z4 :: z5 :: z6 :: z7 :: z8 :: z9 :: z10 :: undef :: undef :: undef :: undef :: undef :: undef :: undef :: undef :: undef :: undef :: undef :: undef :: undef :: undef :: undef :: undef :: undef :: undef :: undef :: []), defers := [] } _
                have hc : i = 0 ∨ i = 1 ∨ i = 2 ∨ i = 3 ∨ i = 4 ∨ i = 5 ∨ i = 6 ∨ i = 7 ∨ i = 8 ∨ i = 9 ∨ i = 10 ∨ i = 11 ∨ i = 12 := by omega
                clear hi'
                rcases hc with rfl | rfl | rfl | rfl | rfl | rfl | rfl | rfl | rfl | rfl | rfl | rfl | rfl
                · clear ho hpre
                  refine wpOp_here rfl (fun K' hK => ?_)
                  go_simp
                  exact hK _ _ ⟨_, rfl, Below.refl _ _, fun p hp => by cases (show some (fun z _ => z = Value.pointer (some ⟨w.heap.size + 1, 4, none⟩)) = some p from hp); exact rfl, fun h => absurd h (by decide)⟩
                · have p0 := hF.fact 0 _ _ rfl rfl (hpre ⟨0, .data⟩ (by cases ho; simp) rfl)
                  subst p0
                  clear ho hpre
                  refine wpOp_here rfl (fun K' hK => ?_)
                  go_simp
                  exact hK _ _ ⟨_, rfl, Below.refl _ _, fun p hp => by cases (show some (fun z _ => z = Value.slice (some ⟨bb, bf, none⟩) b.ns.length cn') = some p from hp); exact rfl, fun h => absurd h (by decide)⟩
                · have p1 := hF.fact 1 _ _ rfl rfl (hpre ⟨1, .data⟩ (by cases ho; simp) rfl)
                  subst p1
                  clear ho hpre
                  refine wpOp_here rfl (fun K' hK => ?_)
                  go_simp
                  exact hK _ _ ⟨_, rfl, Below.refl _ _, fun p hp => by cases (show some (fun z _ => z = Value.pointer (some ⟨bb, bf, none⟩)) = some p from hp); exact rfl, fun h => absurd h (by decide)⟩
                · have p2 := hF.fact 2 _ _ rfl rfl (hpre ⟨2, .data⟩ (by cases ho; simp) rfl)
                  subst p2
                  clear ho hpre
                  refine wpOp_here rfl (fun K' hK => ?_)
                  go_simp
                  exact hK _ _ ⟨_, rfl, Below.refl _ _, fun p hp => by cases (show some (fun z _ => z = Value.agg #[Value.int .i64 bi, Value.int .i64 bq, Value.bool true]) = some p from hp); exact rfl, fun h => absurd h (by decide)⟩
                · clear ho hpre
                  refine wpOp_here rfl (fun K' hK => ?_)
                  go_simp
                  exact hK _ _ ⟨_, rfl, Below.refl _ _, fun p hp => by cases (show some (fun z _ => z = Value.pointer (some ⟨w.heap.size, 4, none⟩)) = some p from hp); exact rfl, fun h => absurd h (by decide)⟩
                · have p4 := hF.fact 4 _ _ rfl rfl (hpre ⟨4, .data⟩ (by cases ho; simp) rfl)
                  subst p4
                  clear ho hpre
                  refine wpOp_here rfl (fun K' hK => ?_)
                  go_simp
                  exact hK _ _ ⟨_, rfl, Below.refl _ _, fun p hp => by cases (show some (fun z _ => z = Value.slice (some ⟨ab, af, none⟩) a.ns.length cn) = some p from hp); exact rfl, fun h => absurd h (by decide)⟩
                · clear ho hpre
                  refine wpOp_here rfl (fun K' hK => ?_)
                  go_simp
                  exact hK _ _ ⟨_, rfl, Below.refl _ _, fun p hp => by cases (show some (fun z _ => z = Value.agg #[Value.int .i64 a.h, Value.string ⟨a.v.toArray⟩, Value.int .i64 a.o, Value.int .i64 a.u, Value.slice (some ⟨ab, af, none⟩) a.ns.length cn, Value.slice ae a.es.length ce]) = some p from hp); exact rfl, fun h => absurd h (by decide)⟩
                · have p6 := hF.fact 6 _ _ rfl rfl (hpre ⟨6, .data⟩ (by cases ho; simp) rfl)
                  subst p6
                  clear ho hpre
                  refine wpOp_here rfl (fun K' hK => ?_)
                  go_simp
                  refine (CN.out _ (HB4.out.trans (HBZ.out.mono HB4.out.size))).mono ?_
                  rintro e7 w7 ⟨rfl, hb7⟩
                  exact hK _ _ ⟨_, rfl, hb7, fun p hp => by cases (show some (fun z _ => z = Value.int .i64 (M : Int)) = some p from hp); exact rfl, fun h => absurd h (by decide)⟩
                · have p7 := hF.fact 7 _ _ rfl rfl (hpre ⟨7, .data⟩ (by cases ho; simp) rfl)
                  subst p7
                  clear ho hpre
                  refine wpOp_here rfl (fun K' hK => ?_)
                  go_simp
                  exact hK _ _ ⟨_, rfl, Below.refl _ _, fun p hp => by cases (show some (fun z _ => z = Value.int .i64 (m : Int)) = some p from hp); exact rfl, fun h => absurd h (by decide)⟩
                · have p5 := hF.fact 5 _ _ rfl rfl (hpre ⟨5, .data⟩ (by cases ho; simp) rfl)
                  subst p5
                  have p8 := hF.fact 8 _ _ rfl rfl (hpre ⟨8, .data⟩ (by cases ho; simp) rfl)
                  subst p8
                  clear ho hpre
                  refine wpOp_here rfl (fun K' hK => ?_)
                  go_simp
                  exact hK _ _ ⟨_, rfl, Below.refl _ _, fun p hp => by cases (show some (fun z _ => z = Value.pointer (some ⟨ab, af + m * 3, none⟩)) = some p from hp); exact rfl, fun h => absurd h (by decide)⟩
                · have p9 := hF.fact 9 _ _ rfl rfl (hpre ⟨9, .data⟩ (by cases ho; simp) rfl)
                  subst p9
                  clear ho hpre
                  refine wpOp_here rfl (fun K' hK => ?_)
                  go_simp
                  exact hK _ _ ⟨_, rfl, Below.refl _ _, fun p hp => by cases (show some (fun z _ => z = Value.agg #[Value.int .i64 ai, Value.int .i64 aq, Value.bool ar]) = some p from hp); exact rfl, fun h => absurd h (by decide)⟩
                · clear ho hpre
                  refine wpOp_here rfl (fun K' hK => ?_)
                  go_simp
                  exact hK _ _ ⟨_, rfl, (Below.refl _ _).alloc (Nat.le_refl _) _, fun p hp => by cases (show some (NewB w4.heap.size 52 #[Value.int .i64 0, Value.int .i64 0, Value.bool false]) = some p from hp); exact ⟨_, rfl, HBZ.out.size, heap_alloc_new wz _⟩, fun h => ⟨_, rfl, Nat.le_refl _⟩⟩
                · clear ho hpre
                  refine wpOp_here rfl (fun K' hK => ?_)
                  go_simp
                  exact hK _ _ ⟨_, rfl, (Below.refl _ _).alloc (Nat.le_refl _) _, fun p hp => by cases (show some (NewB w4.heap.size 52 #[Value.int .i64 0, Value.int .i64 0, Value.bool false]) = some p from hp); exact ⟨_, rfl, HBZ.out.size, heap_alloc_new wz _⟩, fun h => ⟨_, rfl, Nat.le_refl _⟩⟩
            · intro i hi hiN zs l wz o hz hF ho hpre
              have hi' : i = 4 ∨ i = 5 ∨ i = 6 ∨ i = 8 ∨ i = 9 ∨ i = 10 := by simpa using hi
              clear hi hiN
              clear AA
              have HBZ := Lib.hid hF.bel
              have HZ := Lib.hid (HF4.out.grow hF.bel)
              have x4 := HZ.out.b4
              have y0 := HZ.out.a0
              have y1 := HZ.out.a1
              have y2 := HZ.out.a2
              have y3 := HZ.out.a3
              have y4 := HZ.out.a4
              have y5 := HZ.out.a5
              have HW := Lib.hid (HB4.out.trans (hF.bel.mono HB4.out.size))
              have t3 := (HW.out.cell (p := ⟨bb, _, none⟩) hbb).trans v0
              have t4 := (HW.out.cell (p := ⟨bb, _, none⟩) hbb).trans v1
              have t5 := (HW.out.cell (p := ⟨bb, _, none⟩) hbb).trans v2
              have t0 := (HW.out.cell (p := ⟨ab, _, none⟩) hab).trans u0
              have t1 := (HW.out.cell (p := ⟨ab, _, none⟩) hab).trans u1
              have t2 := (HW.out.cell (p := ⟨ab, _, none⟩) hab).trans u2
              match zs, (show zs.length = 14 from hz) with
              | z0 :: z1 :: z2 :: z3 :: z4 :: z5 :: z6 :: z7 :: z8 :: z9 :: z10 :: z11 :: z12 :: z13 :: [], _ =>
                clear hz
                change wpOp _ _ _ _ _ { tmps := List.toArray (Value.agg #[Value.int .i64 a.h, Value.string ⟨a.v.toArray⟩, Value.int .i64 a.o, Value.int .i64 a.u, Value.slice (some ⟨ab, af, none⟩) a.ns.length cn, Value.slice ae a.es.length ce] :: Value.agg #[Value.int .i64 b.h, Value.string ⟨b.v.toArray⟩, Value.int .i64 b.o, Value.int .i64 b.u, Value.slice (some ⟨bb, bf, none⟩) b.ns.length cn', Value.slice be b.es.length ce'] :: Value.pointer (some ⟨w.heap.size, 0, none⟩) :: Value.pointer (some ⟨w.heap.size + 1, 0, none⟩) :: Value.bool false :: z11 :: z12 :: Value.agg #[Value.int .i64 a.h, Value.string ⟨a.v.toArray⟩, Value.int .i64 a.o, Value.int .i64 a.u, Value.slice (some ⟨ab, af, none⟩) a.ns.length cn, Value.slice ae a.es.length ce] :: Value.bool true :: Value.bool false :: Value.bool false :: Value.agg #[Value.int .i64 b.h, Value.string ⟨b.v.toArray⟩, Value.int .i64 b.o, Value.int .i64 b.u, Value.slice (some ⟨bb, bf, none⟩) b.ns.length cn', Value.slice be b.es.length ce'] :: Value.bool true :: Value.bool false :: Value.bool false :: Value.bool false :: Value.pointer (some ⟨w.heap.size, 1, none⟩) :: Value.string ⟨b.v.toArray⟩ :: Value.pointer (some ⟨w.heap.size + 1, 1, none⟩) :: Value.string ⟨b.v.toArray⟩ :: Value.bool false :: Value.bool false :: Value.bool false :: Value.pointer (some ⟨w.heap.size + 1, 0, none⟩) :: Value.int .i64 b.h :: Value.pointer (some ⟨w.heap.size, 0, none⟩) :: Value.int .i64 a.h :: Value.bool false :: Value.bool false :: Value.pointer (some ⟨w.heap.size, 2, none⟩) :: Value.int .i64 b.o :: Value.pointer (some ⟨w.heap.size + 1, 2, none⟩) :: Value.int .i64 b.o :: Value.bool false :: undef :: undef :: undef :: z0 :: z1 :: z2 :: z3 :: z4 :: z5 :: z6 :: z7 :: z8 :: z9 :: z10 :: undef :: undef :: undef :: undef :: undef :: undef :: undef :: undef :: undef :: undef :: undef :: undef :: undef :: undef :: undef :: undef :: undef :: undef :: undef :: []), defers := [] } _
                have hc : i = 4 ∨ i = 5 ∨ i = 6 ∨ i = 8 ∨ i = 9 ∨ i = 10 := by omega
                clear hi'
                rcases hc with rfl | rfl | rfl | rfl | rfl | rfl
                · clear ho hpre
                  refine wpOp_here rfl (fun K' hK => ?_)
                  go_simp
                  exact hK _ _ ⟨_, rfl, Below.refl _ _, fun p hp => by cases (show some (fun z _ => z = Value.pointer (some ⟨w.heap.size, 4, none⟩)) = some p from hp); exact rfl⟩
                · have p4 := hF.fact 4 _ _ rfl rfl (hpre ⟨4, .data⟩ (by cases ho; simp) rfl)
                  subst p4
                  clear ho hpre
                  refine wpOp_here rfl (fun K' hK => ?_)
                  go_simp
                  exact hK _ _ ⟨_, rfl, Below.refl _ _, fun p hp => by cases (show some (fun z _ => z = Value.slice (some ⟨ab, af, none⟩) a.ns.length cn) = some p from hp); exact rfl⟩
                · clear ho hpre
                  refine wpOp_here rfl (fun K' hK => ?_)
                  go_simp
                  exact hK _ _ ⟨_, rfl, Below.refl _ _, fun p hp => by cases (show some (fun z _ => z = Value.agg #[Value.int .i64 a.h, Value.string ⟨a.v.toArray⟩, Value.int .i64 a.o, Value.int .i64 a.u, Value.slice (some ⟨ab, af, none⟩) a.ns.length cn, Value.slice ae a.es.length ce]) = some p from hp); exact rfl⟩
                · have p7 := hF.fact 7 _ _ rfl rfl (hpre ⟨7, .data⟩ (by cases ho; simp) rfl)
                  subst p7
                  clear ho hpre
                  refine wpOp_here rfl (fun K' hK => ?_)
                  go_simp
                  exact hK _ _ ⟨_, rfl, Below.refl _ _, fun p hp => by cases (show some (fun z _ => z = Value.int .i64 (m : Int)) = some p from hp); exact rfl⟩
                · have p5 := hF.fact 5 _ _ rfl rfl (hpre ⟨5, .data⟩ (by cases ho; simp) rfl)
                  subst p5
                  have p8 := hF.fact 8 _ _ rfl rfl (hpre ⟨8, .data⟩ (by cases ho; simp) rfl)
                  subst p8
                  clear ho hpre
                  refine wpOp_here rfl (fun K' hK => ?_)
                  go_simp
                  exact hK _ _ ⟨_, rfl, Below.refl _ _, fun p hp => by cases (show some (fun z _ => z = Value.pointer (some ⟨ab, af + m * 3, none⟩)) = some p from hp); exact rfl⟩
                · have p9 := hF.fact 9 _ _ rfl rfl (hpre ⟨9, .data⟩ (by cases ho; simp) rfl)
                  subst p9
                  clear ho hpre
                  refine wpOp_here rfl (fun K' hK => ?_)
                  go_simp
                  exact hK _ _ ⟨_, rfl, Below.refl _ _, fun p hp => by cases (show some (fun z _ => z = Value.agg #[Value.int .i64 ai, Value.int .i64 aq, Value.bool ar]) = some p from hp); exact rfl⟩
            · intro zs wz hz hbel hev hun
              match zs, (show zs.length = 14 from hz) with
              | z0 :: z1 :: z2 :: z3 :: z4 :: z5 :: z6 :: z7 :: z8 :: z9 :: z10 :: z11 :: z12 :: z13 :: [], _ =>
                have p0 := hev 0 _ _ (by decide) (by decide) rfl rfl
                have p1 := hev 1 _ _ (by decide) (by decide) rfl rfl
                have p2 := hev 2 _ _ (by decide) (by decide) rfl rfl
                have p3 := hev 3 _ _ (by decide) (by decide) rfl rfl
                have p7 := hev 7 _ _ (by decide) (by decide) rfl rfl
                have p11 := hev 11 _ _ (by decide) (by decide) rfl rfl
                have p12 := hev 12 _ _ (by decide) (by decide) rfl rfl
                subst p0 p1 p2 p3 p7
                clear hz hev
                obtain ⟨b1, rfl, q1, q2⟩ := p11
                obtain ⟨b2, rfl, q3, q4⟩ := p12
                have hne : b1 ≠ b2 := fun e => hun 11 12 (by simp) (by simp) (by decide) _ _ rfl rfl (by rw [e])
                refine wpOp_here rfl (fun K' hK => ?_)
                rw [if_pos (by rfl)]
                refine wp_store_row 52 _ _ rfl b1 (#[Value.int .i64 bi, Value.int .i64 bq, Value.bool true]) rfl rfl 52 _ q2 (by kernel_rfl) (by simp) (by simp [Value.oneCell']) ?_
                refine hK _ _ ⟨rfl, Below.setRow hbel q1 _, ?_⟩
                intro j p p2 z hj hp hp2 hz hpz
                have hjl : j < 14 := (List.getElem?_eq_some_iff.1 hp).1
                have hc : j = 0 ∨ j = 1 ∨ j = 2 ∨ j = 3 ∨ j = 4 ∨ j = 5 ∨ j = 6 ∨ j = 7 ∨ j = 8 ∨ j = 9 ∨ j = 10 ∨ j = 11 ∨ j = 12 ∨ j = 13 := by omega
                rcases hc with rfl | rfl | rfl | rfl | rfl | rfl | rfl | rfl | rfl | rfl | rfl | rfl | rfl | rfl
                · cases hp; cases hp2; cases hz; exact hpz
                · cases hp; cases hp2; cases hz; exact hpz
                · cases hp; cases hp2; cases hz; exact hpz
                · cases hp; cases hp2; cases hz; exact hpz
                · cases hp; cases hp2; cases hz; exact hpz
                · cases hp; cases hp2; cases hz; exact hpz
                · cases hp; cases hp2; cases hz; exact hpz
                · cases hp; cases hp2; cases hz; exact hpz
                · cases hp; cases hp2; cases hz; exact hpz
                · cases hp; cases hp2; cases hz; exact hpz
                · cases hp; cases hp2; cases hz; exact hpz
                · cases hp; cases hp2; cases hz; exact ⟨b1, rfl, q1, setRow_heap wz b1 _ _ _ _ q2⟩
                · cases hp; cases hp2; cases hz; exact ⟨b2, rfl, q3, (setRow_other wz b1 b2 _ (fun e => hne e.symm)).trans q4⟩
                · exact absurd rfl hj
            · intro zs wz hz hbel hev
              match zs, (show zs.length = 14 from hz) with
              | z0 :: z1 :: z2 :: z3 :: z4 :: z5 :: z6 :: z7 :: z8 :: z9 :: z10 :: z11 :: z12 :: z13 :: [], _ =>
                have p0 := hev 0 _ _ (by decide) rfl rfl
                have p1 := hev 1 _ _ (by decide) rfl rfl
                have p2 := hev 2 _ _ (by decide) rfl rfl
                have p3 := hev 3 _ _ (by decide) rfl rfl
                have p4 := hev 4 _ _ (by decide) rfl rfl
                have p5 := hev 5 _ _ (by decide) rfl rfl
                have p6 := hev 6 _ _ (by decide) rfl rfl
                have p7 := hev 7 _ _ (by decide) rfl rfl
                have p8 := hev 8 _ _ (by decide) rfl rfl
                have p9 := hev 9 _ _ (by decide) rfl rfl
                have p10 := hev 10 _ _ (by decide) rfl rfl
                have p11 := hev 11 _ _ (by decide) rfl rfl
                have p12 := hev 12 _ _ (by decide) rfl rfl
                subst p0 p1 p2 p3 p4 p5 p6 p7 p8 p9 p10
                clear hz hev
                obtain ⟨b1, rfl, q1, q2⟩ := p11
                obtain ⟨b2, rfl, q3, q4⟩ := p12
                have hne : b1 ≠ b2 := fun e => by subst e; rw [q2] at q4; simp at q4
                have HZ := Lib.hid (HF4.out.grow hbel)
                have hbz := hbel.size
                refine wpOp_here rfl (fun K' hK => ?_)
                rw [if_pos (by rfl)]
                refine wp_store_row 52 _ _ rfl b2 (#[Value.int .i64 ai, Value.int .i64 aq, Value.bool ar]) rfl rfl 52 _ q4 (by kernel_rfl) (by simp) (by simp [Value.oneCell']) ?_
                refine hK _ _ ?_
                clear hK
                have q5 := (setRow_other wz b2 b1 (#[Value.int .i64 ai, Value.int .i64 aq, Value.bool ar]) hne).trans q2
                have q6 := setRow_heap wz b2 _ (#[Value.int .i64 ai, Value.int .i64 aq, Value.bool ar]) _ _ q4
                have HBE := Lib.hid (Below.setRow hbel q3 (#[Value.int .i64 ai, Value.int .i64 aq, Value.bool ar]))
                have HZ2 := Lib.hid (HF4.out.grow HBE.out)
                generalize wz.setRow b2 (#[Value.int .i64 ai, Value.int .i64 aq, Value.bool ar]) = w6 at *
                obtain ⟨⟨g0, g1, -⟩, -⟩ := three_of q5
                obtain ⟨⟨h0, h1, -⟩, -⟩ := three_of q6
                have x3 := HZ2.out.b3
                have y3 := HZ2.out.a3
                refine AA _ _ ?_
                clear AA HZ HBE q2 q4 q5 q6 hbel hbz hne q1 q3
                by_cases hu : a.u < b.u
                · have hu1 : decide (a.u < b.u) = true := by simpa using hu
                  rw [hu1] at HQ
                  by_cases h1' : bi = ai
                  · subst h1'
                    by_cases h2' : bq = aq
                    · subst h2'
                      go_wp2_with fail
                      rw [← HQ.out]
                      exact ⟨ret_bool' (by simp), HZ2.out.bel⟩
                    · have h2'' : (bq == aq) = false := by simpa using h2'
                      go_wp2_with fail
                      rw [← HQ.out]
                      exact ⟨ret_bool' (by simp [h2']), HZ2.out.bel⟩
                  · have h1'' : (bi == ai) = false := by simpa using h1'
                    go_wp2_with fail
                    rw [← HQ.out]
                    exact ⟨ret_bool' (by simp [h1']), HZ2.out.bel⟩
                · have hu1 : decide (a.u < b.u) = false := by simpa using hu
                  rw [hu1] at HQ
                  go_wp2_with fail
                  rw [← HQ.out]
                  exact ⟨ret_bool' (by simp), HZ2.out.bel⟩
          · rw [if_neg ho] at HQ
            have ho1 : (a.o == b.o) = false := by simpa using ho
            go_enter Try.func24, Try.ntmps24
            go_upto_region 1 with fail
            rw [HWE.out]
            go_wp2_with (first
              | (go_at_call 34; (with_reducible refine (CA.out _ (Below.refl _ _)).mono ?_); rintro e1 w3 ⟨rfl, hb1⟩; have HF3 := Lib.hid (HF.out.grow hb1); have HB3 := Lib.hid hb1; clear x0 x1 x2 x3 x4 x5 hlt; have x0 := HF3.out.b0; have x1 := HF3.out.b1; have x2 := HF3.out.b2; have x3 := HF3.out.b3; have x4 := HF3.out.b4; have x5 := HF3.out.b5; clear hb1)
              | (go_at_call 34; (with_reducible refine (CB.out _ HB3.out).mono ?_); rintro e2 w4 ⟨rfl, hb2⟩; have HF4 := Lib.hid (HF3.out.grow hb2); have HB4 := Lib.hid (HB3.out.trans (hb2.mono HB3.out.size)); clear x0 x1 x2 x3 x4 x5; have x0 := HF4.out.b0; have x1 := HF4.out.b1; have x2 := HF4.out.b2; have x3 := HF4.out.b3; have x4 := HF4.out.b4; have y0 := HF4.out.a0; have y1 := HF4.out.a1; rw [HV.out] at y1; have y2 := HF4.out.a2; have y3 := HF4.out.a3; have y4 := HF4.out.a4; clear hb2))
            rw [← HQ.out]
            exact ⟨ret_bool' (by rw [Bool.eq_iff_iff]; simp), HF4.out.bel⟩
        · have hh1 : decide (b.h ≤ a.h) = true := by simp; omega
          rw [show decide (a.h < b.h) = false by simpa using hh] at HQ
          go_enter Try.func24, Try.ntmps24
          go_upto_region 1 with fail
          rw [HWE.out]
          go_wp2_with (first
            | (go_at_call 34; (with_reducible refine (CA.out _ (Below.refl _ _)).mono ?_); rintro e1 w3 ⟨rfl, hb1⟩; have HF3 := Lib.hid (HF.out.grow hb1); have HB3 := Lib.hid hb1; clear x0 x1 x2 x3 x4 x5 hlt; have x0 := HF3.out.b0; have x1 := HF3.out.b1; have x2 := HF3.out.b2; have x3 := HF3.out.b3; have x4 := HF3.out.b4; have x5 := HF3.out.b5; clear hb1)
            | (go_at_call 34; (with_reducible refine (CB.out _ HB3.out).mono ?_); rintro e2 w4 ⟨rfl, hb2⟩; have HF4 := Lib.hid (HF3.out.grow hb2); have HB4 := Lib.hid (HB3.out.trans (hb2.mono HB3.out.size)); clear x0 x1 x2 x3 x4 x5; have x0 := HF4.out.b0; have x1 := HF4.out.b1; have x2 := HF4.out.b2; have x3 := HF4.out.b3; have x4 := HF4.out.b4; have y0 := HF4.out.a0; have y1 := HF4.out.a1; rw [HV.out] at y1; have y2 := HF4.out.a2; have y3 := HF4.out.a3; have y4 := HF4.out.a4; clear hb2))
          rw [← HQ.out]
          exact ⟨ret_bool' (by simp), HF4.out.bel⟩
      · have hv1 := Tp.str_ne hv
        rw [show decide (a.v = b.v) = false by simpa using hv] at HQ
        go_enter Try.func24, Try.ntmps24
        go_upto_region 1 with fail
        rw [HWE.out]
        go_wp2_with (first
          | (go_at_call 34; (with_reducible refine (CA.out _ (Below.refl _ _)).mono ?_); rintro e1 w3 ⟨rfl, hb1⟩; have HF3 := Lib.hid (HF.out.grow hb1); have HB3 := Lib.hid hb1; clear x0 x1 x2 x3 x4 x5 hlt; have x0 := HF3.out.b0; have x1 := HF3.out.b1; have x2 := HF3.out.b2; have x3 := HF3.out.b3; have x4 := HF3.out.b4; have x5 := HF3.out.b5; clear hb1)
          | (go_at_call 34; (with_reducible refine (CB.out _ HB3.out).mono ?_); rintro e2 w4 ⟨rfl, hb2⟩; have HF4 := Lib.hid (HF3.out.grow hb2); have HB4 := Lib.hid (HB3.out.trans (hb2.mono HB3.out.size)); clear x0 x1 x2 x3 x4 x5; have x0 := HF4.out.b0; have x1 := HF4.out.b1; have x2 := HF4.out.b2; have x3 := HF4.out.b3; have x4 := HF4.out.b4; have y0 := HF4.out.a0; have y1 := HF4.out.a1; have y2 := HF4.out.a2; have y3 := HF4.out.a3; have y4 := HF4.out.a4; clear hb2))
        rw [← HQ.out]
        exact ⟨ret_bool' (by simp), HF4.out.bel⟩
end Go.Proofs.Ytnpbkjmlmdpggaa.Wk
