import Derived.Test.YtcbfjkigmlmohaaYu
/- The document's Strong. -/
set_option linter.unusedVariables false
set_option linter.unusedSimpArgs false
namespace Go.Proofs.Ytcbfjkigmlmohaa.Ly
open Go.RowKit

theorem reach_full {n : Int} {es : List Ed} (hr : RightL n es) {a : Int} (ha : nodeB n a = true) : (((reachL n es [] a).length : Nat) : Int) = n ↔ ∀ v : Nat, v < n.toNat → Way es [] a v := by
  have hn := hr.1
  have e := reach_eq hr ha []
  have := selL_full (p := fun (v : Nat) => wayB es [] a (v : Int)) (k := n.toNat)
  generalize reachL n es [] a = R at *
  subst e
  constructor
  · intro h v hv
    exact wayB_iff.1 (this.1 (by omega) v hv)
  · intro h
    have := this.2 fun v hv => wayB_iff.2 (h v hv)
    omega
set_option maxRecDepth 100000 in
set_option maxHeartbeats 16000000 in
/-- The document's Strong. -/
theorem rstrong_any {n : Int} {es : List Ed} {w : World} (v : Value) (hv : EdgesAt w v es) (t : Bool) (ht : strongB n es = t) :
    Calls Try.prog 23 #[.agg #[.int .i64 n, v]] w (Ret (.bool t) w) := by
  have HS := Lib.hid (RJ.start (n := n) hv)
  obtain ⟨eo, ec, rfl⟩ := hv.form
  obtain ⟨Q, HQ⟩ : ∃ Q, Hid (Ret (.bool t) w = Q) := ⟨_, rfl⟩
  rw [HQ.out]
  obtain ⟨r, hr⟩ : ∃ r, rightB n es = r := ⟨_, rfl⟩
  have C := Lib.hid (fun w' (hu : EdgesAt w' (.slice eo es.length ec) es) => rright_any (n := n) (es := es) (w := w') _ hu r hr)
  have HRr := Lib.hid hr
  have HT := Lib.hid ht
  clear hr ht hv
  go_enter Try.func23, Try.ntmps23
  go_wp2_with (go_at_call 21; (with_reducible refine (C.out _ HS.out.ed).mono ?_); rintro e w1 ⟨rfl, hb⟩; have HJ1 := Lib.hid (HS.out.grow hb); clear hb)
  go_loopw [4] (fun i wr => ∃ k : Nat, i = .int .i64 k ∧ Hid (RJ n (.slice eo es.length ec) es w wr) ∧ (k : Int) ≤ max n 0 ∧ Hid (r = true → ∀ a : Nat, a < k → (((reachL n es [] (a : Int)).length : Nat) : Int) = n)) (fun i _ => n.toNat - (intOf i).toNat)
  case atStart => exact ⟨0, rfl, HJ1, by omega, fun _ a h => absurd h (by omega)⟩
  case round =>
    obtain ⟨k, rfl, HJr, hk, HAll⟩ := hrel
    have c0 := HJr.out.box.c0
    cases r with
    | false =>
      have HF : Hid (t = false) := by
        show _ = _
        rw [← HT.out]
        exact strongB_false fun h => by
          have := rightB_true h.1
          rw [HRr.out] at this
          cases this
      by_cases hlt : (k : Int) < n
      all_goals
        go_wp2_with fail
        rw [← HQ.out]
        exact ⟨ret_bool HF.out.symm, HJr.out.below⟩
    | true =>
      have hR : RightL n es := rightB_iff.1 HRr.out
      have n1 := hR.1
      have n40 := hR.2.1
      by_cases hlt : (k : Int) < n
      · have hnk : nodeB n (k : Int) = true := nodeB_iff.2 ⟨by omega, hlt⟩
        have HFull := Lib.hid (reach_full hR hnk)
        have CR := Lib.hid (fun w' (hu : EdgesAt w' (.slice eo es.length ec) es) => rreach_any (n := n) (es := es) (w := w') _ (.slice none 0 0) hu [] (IntsAt.nil w' 0) (k : Int))
        obtain ⟨R, hRR⟩ : ∃ R, reachL n es [] (k : Int) = R := ⟨_, rfl⟩
        rw [hRR] at CR HFull
        have HRR := Lib.hid hRR
        obtain ⟨b0, hb0⟩ : ∃ b, (((R.length : Nat) : Int) != n) = b := ⟨_, rfl⟩
        have HB0 := Lib.hid hb0
        have HBI : Hid (b0 = true ↔ ¬ ((R.length : Nat) : Int) = n) := by show _ ↔ _; rw [← hb0]; simp
        clear hb0 hRR hnk
        go_upto_region 5 with fail
        rename_i K2 A2
        clear c0
        refine wp_region_grow_all mixed (fun zs => { tmps := List.toArray (Value.agg #[Value.int .i64 n, Value.slice eo es.length ec] :: Value.pointer (some ⟨w.heap.size, 0, none⟩) :: u2 :: Value.bool true :: Value.int .i64 (k : Nat) :: Value.agg #[Value.int .i64 n, Value.slice eo es.length ec] :: Value.bool true :: Value.int .i64 (k : Nat) :: Value.pointer (some ⟨w.heap.size, 0, none⟩) :: Value.int .i64 n :: Value.bool true :: Value.bool true :: Value.bool true :: Value.bool true :: u14 :: u15 :: zs.getD 0 undef :: zs.getD 1 undef :: zs.getD 2 undef :: zs.getD 3 undef :: zs.getD 4 undef :: zs.getD 5 undef :: zs.getD 6 undef :: undef :: []), defers := [] }) [(fun z _ => z = Value.agg #[Value.int .i64 n, Value.slice eo es.length ec]), (fun z _ => z = Value.int .i64 (k : Nat)), (IntsV R), (fun z _ => z = Value.int .i64 (R.length : Nat)), (fun z _ => z = Value.pointer (some ⟨w.heap.size, 0, none⟩)), (fun z _ => z = Value.int .i64 n), (fun z _ => z = Value.bool b0)] [u16, u17, u18, u19, u20, u21, u22] rfl rfl rfl ?_ (by kernel_rfl) ?_ ?_
        · intro p hp
          simp only [List.mem_cons, List.not_mem_nil, or_false] at hp
          rcases hp with rfl | rfl | rfl | rfl | rfl | rfl | rfl
          all_goals first | exact stable_eq _ | exact IntsV.stable _
        · intro i hi zs l wz o hz hF ho hpre
          have hi' : i < 7 := hi
          clear A2
          have HJz := Lib.hid (HJr.out.grow hF.bel)
          have c0' := HJz.out.box.c0
          have c1' := HJz.out.box.c1
          match zs, (show zs.length = 7 from hz) with
          | z0 :: z1 :: z2 :: z3 :: z4 :: z5 :: z6 :: [], _ =>
            clear hz hi
            change wpOp _ _ _ _ _ { tmps := List.toArray (Value.agg #[Value.int .i64 n, Value.slice eo es.length ec] :: Value.pointer (some ⟨w.heap.size, 0, none⟩) :: u2 :: Value.bool true :: Value.int .i64 (k : Nat) :: Value.agg #[Value.int .i64 n, Value.slice eo es.length ec] :: Value.bool true :: Value.int .i64 (k : Nat) :: Value.pointer (some ⟨w.heap.size, 0, none⟩) :: Value.int .i64 n :: Value.bool true :: Value.bool true :: Value.bool true :: Value.bool true :: u14 :: u15 :: z0 :: z1 :: z2 :: z3 :: z4 :: z5 :: z6 :: undef :: []), defers := [] } _
            have hc : i = 0 ∨ i = 1 ∨ i = 2 ∨ i = 3 ∨ i = 4 ∨ i = 5 ∨ i = 6 := by omega
            clear hi'
            rcases hc with rfl | rfl | rfl | rfl | rfl | rfl | rfl
            · clear ho hpre
              refine wpOp_here rfl (fun K' hK => ?_)
              go_simp
              exact hK _ _ ⟨_, rfl, Below.refl _ _, fun p hp => by cases (show some (fun z _ => z = Value.agg #[Value.int .i64 n, Value.slice eo es.length ec]) = some p from hp); exact rfl⟩
            · clear ho hpre
              refine wpOp_here rfl (fun K' hK => ?_)
              go_simp
              exact hK _ _ ⟨_, rfl, Below.refl _ _, fun p hp => by cases (show some (fun z _ => z = Value.int .i64 (k : Nat)) = some p from hp); exact rfl⟩
            · have p0 := hF.fact 0 _ _ rfl rfl (hpre ⟨0, .data⟩ (by cases ho; simp) rfl)
              subst p0
              have p1 := hF.fact 1 _ _ rfl rfl (hpre ⟨1, .data⟩ (by cases ho; simp) rfl)
              subst p1
              clear ho hpre
              refine wpOp_here rfl (fun K' hK => ?_)
              go_simp
              refine (CR.out _ HJz.out.ed).mono ?_
              rintro e6 w6' ⟨v6, rfl, hv6, hb6⟩
              exact hK _ _ ⟨_, rfl, hb6, fun p hp => by cases (show some (IntsV R) = some p from hp); exact hv6⟩
            · have p2 := hF.fact 2 _ _ rfl rfl (hpre ⟨2, .data⟩ (by cases ho; simp) rfl)
              obtain ⟨ao1, ac1, rfl⟩ := IntsAt.form p2
              clear ho hpre
              refine wpOp_here rfl (fun K' hK => ?_)
              go_simp
              exact hK _ _ ⟨_, rfl, Below.refl _ _, fun p hp => by cases (show some (fun z _ => z = Value.int .i64 (R.length : Nat)) = some p from hp); exact rfl⟩
            · clear ho hpre
              refine wpOp_here rfl (fun K' hK => ?_)
              go_simp
              exact hK _ _ ⟨_, rfl, Below.refl _ _, fun p hp => by cases (show some (fun z _ => z = Value.pointer (some ⟨w.heap.size, 0, none⟩)) = some p from hp); exact rfl⟩
            · have p4 := hF.fact 4 _ _ rfl rfl (hpre ⟨4, .data⟩ (by cases ho; simp) rfl)
              subst p4
              clear ho hpre
              refine wpOp_here rfl (fun K' hK => ?_)
              go_simp
              exact hK _ _ ⟨_, rfl, Below.refl _ _, fun p hp => by cases (show some (fun z _ => z = Value.int .i64 n) = some p from hp); exact rfl⟩
            · have p3 := hF.fact 3 _ _ rfl rfl (hpre ⟨3, .data⟩ (by cases ho; simp) rfl)
              subst p3
              have p5 := hF.fact 5 _ _ rfl rfl (hpre ⟨5, .data⟩ (by cases ho; simp) rfl)
              subst p5
              clear ho hpre
              refine wpOp_here rfl (fun K' hK => ?_)
              go_simp
              rw [HB0.out]
              exact hK _ _ ⟨_, rfl, Below.refl _ _, fun p hp => by cases (show some (fun z _ => z = Value.bool b0) = some p from hp); exact rfl⟩
        · intro zs wz hz hbel hev
          match zs, (show zs.length = 7 from hz) with
          | z0 :: z1 :: z2 :: z3 :: z4 :: z5 :: z6 :: [], _ =>
            have p0 := hev 0 _ _ rfl rfl
            have p1 := hev 1 _ _ rfl rfl
            have p2 := hev 2 _ _ rfl rfl
            have p3 := hev 3 _ _ rfl rfl
            have p4 := hev 4 _ _ rfl rfl
            have p5 := hev 5 _ _ rfl rfl
            have p6 := hev 6 _ _ rfl rfl
            subst p0 p1 p3 p4 p5 p6
            clear hz hev
            change Exit.then _ _ .normal { tmps := List.toArray (Value.agg #[Value.int .i64 n, Value.slice eo es.length ec] :: Value.pointer (some ⟨w.heap.size, 0, none⟩) :: u2 :: Value.bool true :: Value.int .i64 (k : Nat) :: Value.agg #[Value.int .i64 n, Value.slice eo es.length ec] :: Value.bool true :: Value.int .i64 (k : Nat) :: Value.pointer (some ⟨w.heap.size, 0, none⟩) :: Value.int .i64 n :: Value.bool true :: Value.bool true :: Value.bool true :: Value.bool true :: u14 :: u15 :: Value.agg #[Value.int .i64 n, Value.slice eo es.length ec] :: Value.int .i64 (k : Nat) :: z2 :: Value.int .i64 (R.length : Nat) :: Value.pointer (some ⟨w.heap.size, 0, none⟩) :: Value.int .i64 n :: Value.bool b0 :: undef :: []), defers := [] } _
            have HJn := Lib.hid (HJr.out.grow hbel)
            clear hbel CR p2
            refine A2 _ _ ?_
            cases b0 with
            | true =>
              have HF : Hid (t = false) := by
                show _ = _
                rw [← HT.out]
                exact strongB_false fun h => HBI.out.1 rfl (HFull.out.2 fun v hv => h.2 k (by omega) v hv)
              go_wp2_with fail
              rw [← HQ.out]
              exact ⟨ret_bool HF.out.symm, HJn.out.below⟩
            | false =>
              have HA2 : Hid (true = true → ∀ a : Nat, a < k + 1 → (((reachL n es [] (a : Int)).length : Nat) : Int) = n) := fun _ a ha => by
                by_cases e : a = k
                · subst e
                  rw [HRR.out]
                  exact Classical.byContradiction fun h => by have := HBI.out.2 h; cases this
                · exact HAll.out rfl a (by omega)
              go_wp2_with fail
              go_roundw
              case rel => exact ⟨k + 1, by go_num, HJn, by omega, fun _ => HA2.out rfl⟩
              case measure => simp [intOf]; omega
      · have HF : Hid (t = true) := by
          show _ = _
          rw [← HT.out]
          exact strongB_true ⟨hR, fun a ha v hv => (reach_full hR (nodeB_iff.2 ⟨by omega, by omega⟩)).1 (HAll.out rfl a (by omega)) v hv⟩
        go_wp2_with fail
        rw [← HQ.out]
        exact ⟨ret_bool HF.out.symm, HJr.out.below⟩
end Go.Proofs.Ytcbfjkigmlmohaa.Ly
