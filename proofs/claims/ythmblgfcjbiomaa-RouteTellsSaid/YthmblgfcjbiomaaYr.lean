import Derived.Test.YthmblgfcjbiomaaYl
/- The document's Right, Out, Between. -/
set_option linter.unusedVariables false
set_option linter.unusedSimpArgs false
namespace Go.Proofs.Ythmblgfcjbiomaa.Ly
open Go.RowKit

theorem rright_short {n : Int} {es : List Ed} {w : World} (v : Value) (hv : EdgesAt w v es) (h : ¬ (1 ≤ n ∧ n ≤ 40 ∧ es.length ≤ 120)) :
    Calls Try.prog 29 #[.agg #[.int .i64 n, v]] w (Ret (.bool false) w) := by
  obtain ⟨ao, cap, rfl, hl, hc⟩ := hv
  clear hc
  have H0 : Hid (Below w.heap.size w (w.alloc (.cells #[.int .i64 n, .slice ao es.length cap] 24))) := (Below.refl _ w).alloc (Nat.le_refl _) _
  obtain ⟨Q, HQ⟩ : ∃ Q, Hid (Ret (.bool false) w = Q) := ⟨_, rfl⟩
  rw [HQ.out]
  by_cases h1 : n < 1
  · have d1 : decide (n < 1) = true := by simpa using h1
    go_enter Try.func29, Try.ntmps29
    go_wp2
    rw [← HQ.out]
    exact ⟨rfl, H0.out⟩
  · have d1 : decide (n < 1) = false := by simpa using h1
    by_cases h2 : 40 < n
    · have d2 : decide (40 < n) = true := by simpa using h2
      go_enter Try.func29, Try.ntmps29
      go_wp2
      rw [← HQ.out]
      exact ⟨rfl, H0.out⟩
    · have d2 : decide (40 < n) = false := by simpa using h2
      have d3 : decide (120 < (es.length : Int)) = true := by simp; omega
      go_enter Try.func29, Try.ntmps29
      go_wp2
      rw [← HQ.out]
      exact ⟨rfl, H0.out⟩
/-- Between the rounds of the document's Right. -/
structure RJ (n : Int) (v : Value) (es : List Ed) (w wr : World) : Prop where
  below : Below w.heap.size w wr
  box : BoxAt n v wr w.heap.size
  ed : EdgesAt wr v es
theorem RJ.grow {n : Int} {v : Value} {es : List Ed} {w wr wr' : World} (h : RJ n v es w wr) (hb : Below wr.heap.size wr wr') : RJ n v es w wr' :=
  ⟨h.below.trans (hb.mono h.below.size), h.box.below hb, h.ed.below hb (Nat.le_refl _)⟩
theorem RJ.start {n : Int} {v : Value} {es : List Ed} {w : World} (h : EdgesAt w v es) : RJ n v es w (w.alloc (.cells #[.int .i64 n, v] 24)) :=
  ⟨(Below.refl _ w).alloc (Nat.le_refl _) _, BoxAt.new n v w, h.below ((Below.refl _ w).alloc (Nat.le_refl _) _) (Nat.le_refl _)⟩
set_option maxRecDepth 100000 in
set_option maxHeartbeats 16000000 in
theorem rright_any {n : Int} {es : List Ed} {w : World} (v : Value) (hv : EdgesAt w v es) (t : Bool) (ht : rightB n es = t) :
    Calls Try.prog 29 #[.agg #[.int .i64 n, v]] w (Ret (.bool t) w) := by
  by_cases hs : 1 ≤ n ∧ n ≤ 40 ∧ es.length ≤ 120
  · obtain ⟨n1, n2, n3⟩ := hs
    have HS := Lib.hid (RJ.start (n := n) hv)
    have HT := Lib.hid ht
    obtain ⟨eo, ec, rfl⟩ := hv.form
    clear hv ht
    obtain ⟨Q, HQ⟩ : ∃ Q, Hid (Ret (.bool t) w = Q) := ⟨_, rfl⟩
    rw [HQ.out]
    have d1 : decide (n < 1) = false := by simp; omega
    have d2 : decide (40 < n) = false := by simp; omega
    have d3 : decide (120 < (es.length : Int)) = false := by simp; omega
    go_enter Try.func29, Try.ntmps29
    go_wp2
    go_loopw [3] (fun i wr => ∃ k : Nat, k ≤ es.length ∧ i = .int .i64 k ∧ Hid (RJ n (.slice eo es.length ec) es w wr) ∧ Hid (RightTo n es k)) (fun i _ => es.length - (intOf i).toNat)
    case atStart => exact ⟨0, Nat.zero_le _, rfl, HS, RightTo.zero n es⟩
    case round =>
      obtain ⟨k, hk, rfl, HJ, HTo⟩ := hrel
      have c0 := HJ.out.box.c0
      have c1 := HJ.out.box.c1
      have hbl := HJ.out.box.lt
      by_cases hlt : k < es.length
      · obtain ⟨eo', ec', hveq, _, hcs⟩ := HJ.out.ed
        simp only [Value.slice.injEq] at hveq
        obtain ⟨rfl, -, -⟩ := hveq
        obtain ⟨eb, eof, rfl, elb, hcs⟩ := hcs (by omega)
        obtain ⟨g0, g1, g2⟩ := hcs k hlt
        have HCS := Lib.hid hcs
        clear hcs
        have HN : Hid (¬ EdgeOk n (ate es k) → t = false) := fun h => by rw [← HT.out]; exact rightB_false (RightTo.not hlt (.inl h))
        have HN2 : Hid (∀ j, j < k → Same (ate es j) (ate es k) → t = false) := fun j hj h => by rw [← HT.out]; exact rightB_false (RightTo.not hlt (.inr ⟨j, hj, h⟩))
        have HStep : Hid (EdgeOk n (ate es k) → (∀ j, j < k → ¬ Same (ate es j) (ate es k)) → RightTo n es (k + 1)) := fun h1 h2 => HTo.out.succ h1 h2
        obtain ⟨e, he⟩ : ∃ e, ate es k = e := ⟨_, rfl⟩
        rw [he] at g0 g1 g2 HN HN2 HStep
        clear he
        obtain ⟨f, g, c⟩ := e
        dsimp only at g0 g1 g2
        have HBa : Hid (Below w.heap.size w (wr.alloc (.cells #[.int .i64 f, .int .i64 g, .int .i64 c] 41))) := HJ.out.below.alloc HJ.out.below.size _
        by_cases T0 : f < 0
        · have HF : Hid (t = false) := HN.out (by show ¬ EdgeOk n (f, g, c); rintro ⟨⟨a, _⟩, _⟩; have a' : 0 ≤ f := a; omega)
          have d10 : decide (f < 0) = true := by simpa using T0
          go_wp2_with fail
          rw [← HQ.out]
          exact ⟨ret_bool HF.out.symm, HBa.out⟩
        have d10 : decide (f < 0) = false := by simpa using T0
        by_cases T1 : n ≤ f
        · have HF : Hid (t = false) := HN.out (by show ¬ EdgeOk n (f, g, c); rintro ⟨⟨_, a⟩, _⟩; have a' : f < n := a; omega)
          have d11 : decide (n ≤ f) = true := by simpa using T1
          go_wp2_with fail
          rw [← HQ.out]
          exact ⟨ret_bool HF.out.symm, HBa.out⟩
        have d11 : decide (n ≤ f) = false := by simpa using T1
        by_cases T2 : g < 0
        · have HF : Hid (t = false) := HN.out (by show ¬ EdgeOk n (f, g, c); rintro ⟨_, ⟨a, _⟩, _⟩; have a' : 0 ≤ g := a; omega)
          have d12 : decide (g < 0) = true := by simpa using T2
          go_wp2_with fail
          rw [← HQ.out]
          exact ⟨ret_bool HF.out.symm, HBa.out⟩
        have d12 : decide (g < 0) = false := by simpa using T2
        by_cases T3 : n ≤ g
        · have HF : Hid (t = false) := HN.out (by show ¬ EdgeOk n (f, g, c); rintro ⟨_, ⟨_, a⟩, _⟩; have a' : g < n := a; omega)
          have d13 : decide (n ≤ g) = true := by simpa using T3
          go_wp2_with fail
          rw [← HQ.out]
          exact ⟨ret_bool HF.out.symm, HBa.out⟩
        have d13 : decide (n ≤ g) = false := by simpa using T3
        by_cases T4 : f = g
        · have HF : Hid (t = false) := HN.out (by show ¬ EdgeOk n (f, g, c); rintro ⟨_, _, a, _⟩; exact a T4)
          subst T4
          go_wp2_with fail
          rw [← HQ.out]
          exact ⟨ret_bool HF.out.symm, HBa.out⟩
        have d14 : (f == g) = false := by simpa using T4
        have e14 : decide (f = g) = false := by simpa using T4
        by_cases T5 : c < 1
        · have HF : Hid (t = false) := HN.out (by show ¬ EdgeOk n (f, g, c); rintro ⟨_, _, _, a, _⟩; have a' : 1 ≤ c := a; omega)
          have d15 : decide (c < 1) = true := by simpa using T5
          go_wp2_with fail
          rw [← HQ.out]
          exact ⟨ret_bool HF.out.symm, HBa.out⟩
        have d15 : decide (c < 1) = false := by simpa using T5
        by_cases T6 : 1000 < c
        · have HF : Hid (t = false) := HN.out (by show ¬ EdgeOk n (f, g, c); rintro ⟨_, _, _, _, a⟩; have a' : c ≤ 1000 := a; omega)
          have d16 : decide (1000 < c) = true := by simpa using T6
          go_wp2_with fail
          rw [← HQ.out]
          exact ⟨ret_bool HF.out.symm, HBa.out⟩
        have d16 : decide (1000 < c) = false := by simpa using T6
        have HOK : Hid (EdgeOk n (f, g, c)) := ⟨⟨by show 0 ≤ f; omega, by show f < n; omega⟩, ⟨by show 0 ≤ g; omega, by show g < n; omega⟩, T4, by show 1 ≤ c; omega, by show c ≤ 1000; omega⟩
        clear T0 T1 T2 T3 T4 T5 T6
        go_upto_region 9 with fail
        clear d10 d11 d12 d13 d14 e14 d15 d16
        have HBx : Below wr.heap.size wr (wr.alloc (.cells #[.int .i64 f, .int .i64 g, .int .i64 c] 41)) := (Below.refl _ wr).alloc (Nat.le_refl _) _
        have HJa := Lib.hid (HJ.out.grow HBx)
        have k0 : (wr.alloc (.cells #[.int .i64 f, .int .i64 g, .int .i64 c] 41)).cell? ⟨wr.heap.size, 0, none⟩ = some (.int .i64 f) := by rw [cell_of_row _ _ 0 _ _ _ (heap_alloc_new wr _)]; rfl
        have k1 : (wr.alloc (.cells #[.int .i64 f, .int .i64 g, .int .i64 c] 41)).cell? ⟨wr.heap.size, 1, none⟩ = some (.int .i64 g) := by rw [cell_of_row _ _ 1 _ _ _ (heap_alloc_new wr _)]; rfl
        have hbe : wr.heap.size < (wr.alloc (.cells #[.int .i64 f, .int .i64 g, .int .i64 c] 41)).heap.size := by simp
        clear HBx HJ HS HBa g0 g1 g2 c0 c1 HCS
        generalize wr.alloc (.cells #[.int .i64 f, .int .i64 g, .int .i64 c] 41) = wa at *
        generalize wr.heap.size = be at *
        go_wp2_with fail
        go_loopw [5] (fun i wq => ∃ q : Nat, q ≤ k ∧ i = .int .i64 q ∧ Hid (Below wa.heap.size wa wq) ∧ Hid (∀ j, j < q → ¬ Same (ate es j) (f, g, c))) (fun i _ => k - (intOf i).toNat)
        case atStart => exact ⟨0, Nat.zero_le _, rfl, Below.refl _ _, fun j h => absurd h (by omega)⟩
        case round =>
          obtain ⟨q, hq, rfl, HBq, HSm⟩ := hrel
          have HJq := Lib.hid (HJa.out.grow HBq.out)
          by_cases hlq : q < k
          · have c1 := HJq.out.box.c1
            obtain ⟨eo2, ec2, hveq2, _, hcs2⟩ := HJq.out.ed
            simp only [Value.slice.injEq, Option.some.injEq, Addr.mk.injEq, and_true] at hveq2
            obtain ⟨rfl, -⟩ := hveq2
            obtain ⟨eb2, eof2, h3, elb2, hcs2⟩ := hcs2 (by omega)
            simp only [Option.some.injEq, Addr.mk.injEq, and_true] at h3
            obtain ⟨rfl, rfl⟩ := h3
            obtain ⟨x0, x1, -⟩ := hcs2 q (by omega)
            have y0 := (HBq.out.cell (p := ⟨be, 0, none⟩) hbe).trans k0
            have y1 := (HBq.out.cell (p := ⟨be, 1, none⟩) hbe).trans k1
            have hqe : q < es.length := by omega
            have HSq : Hid (Same (ate es q) (f, g, c) ↔ (ate es q).1 = f ∧ (ate es q).2.1 = g) := Iff.rfl
            have HN2q : Hid (Same (ate es q) (f, g, c) → t = false) := HN2.out q hlq
            have HNx : Hid (¬ Same (ate es q) (f, g, c) → ∀ j, j < q + 1 → ¬ Same (ate es j) (f, g, c)) := fun h j hj => by
              by_cases e : j = q
              · subst e; exact h
              · exact HSm.out j (by omega)
            clear hcs2
            generalize (ate es q).1 = ef at *
            generalize (ate es q).2.1 = eg at *
            have z1 := cell_regrown c1
            have z2 := cell_regrown x0
            have z3 := cell_regrown x1
            have z4 := cell_regrown y0
            have z5 := cell_regrown y1
            clear c1 x0 x1 y0 y1 k0 k1
            by_cases e1 : ef = f
            · by_cases e2 : eg = g
              · have HF : Hid (t = false) := HN2q.out (HSq.out.2 ⟨e1, e2⟩)
                subst e1 e2
                go_wp2_with fail
                refine wp_region_quiet_below mixed (by kernel_rfl) ?_
                repeat
                  ((with_reducible refine wpQuiet_step (fun K hK => ?_))
                   go_simp
                   (with_reducible refine hK _ ?_; clear hK K))
                refine wpQuiet_nil ?_
                intro _ hw'
                obtain ⟨⟨dq, osq⟩, hw''⟩ := hw'
                subst hw''
                have HB2 := Lib.hid (HBq.out.trans ((below_regrown wr dq osq).mono HBq.out.size))
                have HBN := Lib.hid (HJq.out.below.trans ((below_regrown wr dq osq).mono HJq.out.below.size))
                clear z1 z2 z3 z4 z5
                go_wp2_with fail
                rw [← HQ.out]
                exact ⟨ret_bool HF.out.symm, HBN.out⟩
              · have HNn := Lib.hid (HNx.out (fun h => e2 (HSq.out.1 h).2))
                have d2 : (eg == g) = false := by simpa using e2
                subst e1
                clear e2
                go_wp2_with fail
                refine wp_region_quiet_below mixed (by kernel_rfl) ?_
                repeat
                  ((with_reducible refine wpQuiet_step (fun K hK => ?_))
                   go_simp
                   (with_reducible refine hK _ ?_; clear hK K))
                refine wpQuiet_nil ?_
                intro _ hw'
                obtain ⟨⟨dq, osq⟩, hw''⟩ := hw'
                subst hw''
                have HB2 := Lib.hid (HBq.out.trans ((below_regrown wr dq osq).mono HBq.out.size))
                have HBN := Lib.hid (HJq.out.below.trans ((below_regrown wr dq osq).mono HJq.out.below.size))
                clear z1 z2 z3 z4 z5
                go_wp2_with fail
                go_roundw
                case rel => exact ⟨q + 1, by omega, by go_num, HB2, HNn⟩
                case measure => simp [intOf]; omega
            · have HNn := Lib.hid (HNx.out (fun h => e1 (HSq.out.1 h).1))
              have d2 : (ef == f) = false := by simpa using e1
              clear e1
              go_wp2_with fail
              refine wp_region_quiet_below mixed (by kernel_rfl) ?_
              repeat
                ((with_reducible refine wpQuiet_step (fun K hK => ?_))
                 go_simp
                 (with_reducible refine hK _ ?_; clear hK K))
              refine wpQuiet_nil ?_
              intro _ hw'
              obtain ⟨⟨dq, osq⟩, hw''⟩ := hw'
              subst hw''
              have HB2 := Lib.hid (HBq.out.trans ((below_regrown wr dq osq).mono HBq.out.size))
              have HBN := Lib.hid (HJq.out.below.trans ((below_regrown wr dq osq).mono HJq.out.below.size))
              clear z1 z2 z3 z4 z5
              go_wp2_with fail
              go_roundw
              case rel => exact ⟨q + 1, by omega, by go_num, HB2, HNn⟩
              case measure => simp [intOf]; omega
          · obtain rfl : q = k := by omega
            have HTn := Lib.hid (HStep.out HOK.out HSm.out)
            go_wp2_with fail
            go_roundw
            case rel => exact ⟨q + 1, by omega, by go_num, HJq, HTn⟩
            case measure => simp [intOf]; omega
      · have HF : Hid (t = true) := by
          show _ = _
          rw [← HT.out]
          obtain rfl : k = es.length := by omega
          exact rightB_true ⟨n1, n2, n3, HTo.out⟩
        have HB := Lib.hid HJ.out.below
        go_wp2_with fail
        rw [← HQ.out]
        exact ⟨ret_bool HF.out.symm, HB.out⟩
  · have : t = false := by
      rw [← ht]
      exact rightB_false fun h => hs ⟨h.1, h.2.1, h.2.2.1⟩
    subst this
    exact rright_short v hv hs
end Go.Proofs.Ythmblgfcjbiomaa.Ly
