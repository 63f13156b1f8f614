import Derived.Test.YtcbfjkigmlmohaaYr
/- The document's Out and Between. -/
set_option linter.unusedVariables false
set_option linter.unusedSimpArgs false
namespace Go.Proofs.Ytcbfjkigmlmohaa.Ly
open Go.RowKit

set_option maxHeartbeats 8000000 in
theorem rbetween_any {n : Int} {es : List Ed} {w : World} (v : Value) (hv : EdgesAt w v es) (f t : Int) :
    Calls Try.prog 14 #[.agg #[.int .i64 n, v], .int .i64 f, .int .i64 t] w (Ret (.tuple #[.int .i64 (betL n es f t).1, .bool (betL n es f t).2]) w) := by
  have HS := Lib.hid (RJ.start (n := n) hv)
  obtain ⟨eo, ec, rfl⟩ := hv.form
  obtain ⟨x, hx⟩ : ∃ x, betL n es f t = x := ⟨_, rfl⟩
  obtain ⟨x1, x2⟩ := x
  rw [hx]
  have HX := Lib.hid hx
  clear hx hv
  obtain ⟨Q, HQ⟩ : ∃ Q, Hid (Ret (.tuple #[.int .i64 (x1, x2).1, .bool (x1, x2).2]) w = Q) := ⟨_, rfl⟩
  rw [HQ.out]
  obtain ⟨r, hr⟩ : ∃ r, rightB n es = r := ⟨_, rfl⟩
  have C := Lib.hid (fun w' (hu : EdgesAt w' (.slice eo es.length ec) es) => rright_any (n := n) (es := es) (w := w') _ hu r hr)
  have HRr := Lib.hid hr
  clear hr
  go_enter Try.func14, Try.ntmps14
  go_wp2_with (go_at_call 21; (with_reducible refine (C.out _ HS.out.ed).mono ?_); rintro e w1 ⟨rfl, hb⟩; have HJ1 := Lib.hid (HS.out.grow hb); clear hb)
  have c1 := HJ1.out.box.c1
  go_loop [9] (fun i => ∃ k : Nat, k ≤ es.length ∧ i = .int .i64 k ∧ Hid (r = true → ∀ j, j < k → hitB es f t j = false)) (fun i => es.length - (intOf i).toNat)
  case atStart => exact ⟨0, Nat.zero_le _, rfl, fun _ j hj => absurd hj (by omega)⟩
  case round =>
    obtain ⟨k, hk, rfl, HN⟩ := hrel
    cases r with
    | false =>
      have HE : Hid (x1 = 0 ∧ x2 = false) := by
        have := HX.out
        unfold betL at this
        rw [HRr.out] at this
        simp at this
        exact ⟨this.1.symm, this.2⟩
      by_cases hlt : k < es.length
      all_goals
        go_wp2_with fail
        rw [← HQ.out]
        obtain ⟨rfl, rfl⟩ := HE.out
        exact ⟨rfl, HJ1.out.below⟩
    | true =>
      have HE : Hid (betw es f t = (x1, x2)) := by
        have := HX.out
        unfold betL at this
        rwa [HRr.out] at this
      by_cases hlt : k < es.length
      · obtain ⟨eo', ec', hveq, _, hcs⟩ := HJ1.out.ed
        simp only [Value.slice.injEq] at hveq
        obtain ⟨rfl, -, -⟩ := hveq
        obtain ⟨eb, eof, rfl, elb, hcs⟩ := hcs (by omega)
        obtain ⟨g0, g1, -⟩ := hcs k hlt
        clear hcs
        by_cases hh : (ate es k).1 = f ∧ (ate es k).2.1 = t
        · obtain ⟨h1, h2⟩ := hh
          have HE2 : Hid (x1 = (k : Int) ∧ x2 = true) := by
            have := HE.out
            rw [betw_some hlt (hitB_true h1 h2) (HN.out rfl)] at this
            simp at this
            exact ⟨this.1.symm, this.2⟩
          rw [h1] at g0
          rw [h2] at g1
          clear h1 h2
          go_wp2_with fail
          rw [← HQ.out]
          obtain ⟨rfl, rfl⟩ := HE2.out
          exact ⟨rfl, HJ1.out.below⟩
        · have HN2 : Hid (true = true → ∀ j, j < k + 1 → hitB es f t j = false) := fun _ j hj => by
            by_cases e : j = k
            · subst e; exact hitB_false hh
            · exact HN.out rfl j (by omega)
          by_cases h1 : (ate es k).1 = f
          · have h2 : ¬ (ate es k).2.1 = t := fun x => hh ⟨h1, x⟩
            have d2 : ((ate es k).2.1 == t) = false := by simpa using h2
            rw [h1] at g0
            generalize (ate es k).2.1 = g at *
            clear h1 h2 hh
            go_wp2_with fail
            go_round
            case rel => exact ⟨k + 1, by omega, by go_num, fun _ => HN2.out rfl⟩
            case measure => simp [intOf]; omega
          · have d1 : ((ate es k).1 == f) = false := by simpa using h1
            generalize (ate es k).2.1 = g at *
            generalize (ate es k).1 = f' at *
            clear h1 hh
            go_wp2_with fail
            go_round
            case rel => exact ⟨k + 1, by omega, by go_num, fun _ => HN2.out rfl⟩
            case measure => simp [intOf]; omega
      · have HE2 : Hid (x1 = 0 ∧ x2 = false) := by
          have := HE.out
          rw [betw_none fun j hj => HN.out rfl j (by omega)] at this
          simp at this
          exact ⟨this.1.symm, this.2⟩
        go_wp2_with fail
        rw [← HQ.out]
        obtain ⟨rfl, rfl⟩ := HE2.out
        exact ⟨rfl, HJ1.out.below⟩
set_option maxHeartbeats 8000000 in
theorem rout_any {n : Int} {es : List Ed} {w : World} (v : Value) (hv : EdgesAt w v es) (x : Int) :
    Calls Try.prog 17 #[.agg #[.int .i64 n, v], .int .i64 x] w (RetInts (outL n es x) w) := by
  have HS := Lib.hid (RJ.start (n := n) hv)
  obtain ⟨eo, ec, rfl⟩ := hv.form
  obtain ⟨l, hx⟩ : ∃ l, outL n es x = l := ⟨_, rfl⟩
  rw [hx]
  have HX := Lib.hid hx
  clear hx hv
  obtain ⟨Q, HQ⟩ : ∃ Q, Hid (RetInts l w = Q) := ⟨_, rfl⟩
  rw [HQ.out]
  obtain ⟨r, hr⟩ : ∃ r, rightB n es = r := ⟨_, rfl⟩
  have C := Lib.hid (fun w' (hu : EdgesAt w' (.slice eo es.length ec) es) => rright_any (n := n) (es := es) (w := w') _ hu r hr)
  have HRr := Lib.hid hr
  clear hr
  cases r with
  | false =>
    have HE : Hid (l = []) := by
      have := HX.out
      unfold outL at this
      rw [HRr.out] at this
      exact this.symm
    go_enter Try.func17, Try.ntmps17
    go_wp2_with (go_at_call 21; (with_reducible refine (C.out _ HS.out.ed).mono ?_); rintro e w1 ⟨rfl, hb⟩; have HJ1 := Lib.hid (HS.out.grow hb); clear hb)
    have c1 := HJ1.out.box.c1
    go_loop [6, 7] (fun vo i => vo = .slice none 0 0 ∧ i = .int .i64 0) (fun _ _ => 0)
    case atStart => exact ⟨rfl, rfl⟩
    case round =>
      obtain ⟨rfl, rfl⟩ := hrel
      by_cases hlt : 0 < es.length
      all_goals
        go_wp2_with fail
        rw [← HQ.out]
        obtain rfl := HE.out
        exact ⟨_, rfl, IntsAt.nil _ _, HJ1.out.below⟩
  | true =>
    have hr120 : es.length ≤ 120 := (rightB_iff.1 HRr.out).2.2.1
    have HE : Hid (selL (fun i => decide ((ate es i).1 = x)) es.length = l) := by
      have := HX.out
      unfold outL at this
      rwa [HRr.out] at this
    obtain ⟨i0, hi0, hz0, hz1, hz2⟩ := info_parts int_info
    obtain ⟨p, hp⟩ : ∃ p : Nat → Bool, (fun i => decide ((ate es i).1 = x)) = p := ⟨_, rfl⟩
    rw [hp] at HE
    have HP : Hid (∀ i, p i = decide ((ate es i).1 = x)) := fun i => by rw [← hp]
    clear hp
    go_enter Try.func17, Try.ntmps17
    go_wp2_with (go_at_call 21; (with_reducible refine (C.out _ HS.out.ed).mono ?_); rintro e w1 ⟨rfl, hb⟩; have HJ1 := Lib.hid (HS.out.grow hb); clear hb)
    go_loopw [6, 7] (fun vo i wr => ∃ (k m : Nat) (vo' : Value), vo' = vo ∧ k ≤ es.length ∧ i = .int .i64 k ∧ m ≤ k ∧ Hid (wr.ownsRow w1.heap.size 3 1 vo' m (intC (selL p k))) ∧ Hid (m = (selL p k).length) ∧ Hid (Below w1.heap.size w1 wr)) (fun _ i _ => es.length - (intOf i).toNat)
    case atStart => exact ⟨0, 0, _, rfl, Nat.zero_le _, rfl, Nat.le_refl _, World.ownsRow_nil _ _ _ _, rfl, Below.refl _ _⟩
    case round =>
      obtain ⟨k, m, vo, rfl, hk, rfl, hmk, HO, HM, HR⟩ := hrel
      have HJr := Lib.hid (HJ1.out.grow HR.out)
      have c1 := HJr.out.box.c1
      have hblt := HJr.out.box.lt
      by_cases hlt : k < es.length
      · obtain ⟨eo', ec', hveq, _, hcs⟩ := HJr.out.ed
        simp only [Value.slice.injEq] at hveq
        obtain ⟨rfl, -, -⟩ := hveq
        obtain ⟨eb, eof, rfl, elb, hcs⟩ := hcs (by omega)
        have g0 := (hcs k hlt).1
        have HPK := Lib.hid (HP.out k)
        have hbs : w1.heap.size ≤ wr.heap.size := HR.out.size
        generalize (ate es k).1 = f at *
        obtain ⟨ao2, cap2, rfl⟩ := row_form HO.out
        clear hcs
        by_cases h1 : f = x
        · subst h1
          have HSs : Hid (selL p (k + 1) = selL p k ++ [(k : Int)]) := selL_yes (by rw [HPK.out]; simp)
          go_wp2_with (at_builtin; (refine wpList_append_lies _ rfl _ _ 26 rfl w1.heap.size 3 i0 _ 1 8 Try.underlying26 hi0 hz0 hz1 hz2 rfl (by omega) _ m (intC (selL p k)) rfl (HO.out.alloc _) ⟨wr.heap.size, 0, none⟩ 1 1 [.int .i64 k] rfl rfl (World.news_of_block (cs := #[.int .i64 k]) (t := 3) (fr := (0, 0)) (heap_alloc_new wr _)) (by simp [Value.oneCell']) (by omega) (by unfold maxLen; omega) (by omega) (by simp; omega) (wr.heap.size + 1) (by simp) ?_); intro g' cp w4 hown hgrow hat hlt4)
          have HN : Hid (w4.ownsRow w1.heap.size 3 1 (.slice (some ⟨g', 0, none⟩) (m + 1) cp) (m + 1) (intC (selL p (k + 1)))) := by
            show World.ownsRow _ _ _ _ _ _ _
            rw [HSs.out, intC_append]
            exact hown
          have HBn := Lib.hid (row_below HO.out hgrow HR.out hbs)
          have HMn : Hid (m + 1 = (selL p (k + 1)).length) := by
            show _ = _
            rw [HSs.out, List.length_append, ← HM.out]
            rfl
          clear hown hgrow hat hlt4
          go_roundw
          case rel => exact ⟨k + 1, m + 1, _, rfl, by omega, by go_num, by omega, HN, HMn, HBn⟩
          case measure => simp [intOf]; omega
        · have HSs : Hid (selL p (k + 1) = selL p k) := selL_no (by rw [HPK.out]; simpa using h1)
          have d1 : (f == x) = false := by simpa using h1
          have HN : Hid (wr.ownsRow w1.heap.size 3 1 (.slice ao2 m cap2) m (intC (selL p (k + 1)))) := by
            show World.ownsRow _ _ _ _ _ _ _
            rw [HSs.out]
            exact HO.out
          have HMn : Hid (m = (selL p (k + 1)).length) := by show _ = _; rw [HSs.out]; exact HM.out
          clear h1
          go_wp2_with fail
          go_roundw
          case rel => exact ⟨k + 1, m, _, rfl, by omega, by go_num, by omega, HN, HMn, HR⟩
          case measure => simp [intOf]; omega
      · obtain rfl : k = es.length := by omega
        have HF : Hid (IntsAt wr vo l) := by
          show IntsAt _ _ _
          rw [← HE.out]
          exact ints_own HO.out HM.out.symm (by omega)
        go_wp2_with fail
        rw [← HQ.out]
        exact ⟨_, rfl, HF.out, HJr.out.below⟩
end Go.Proofs.Ytcbfjkigmlmohaa.Ly
