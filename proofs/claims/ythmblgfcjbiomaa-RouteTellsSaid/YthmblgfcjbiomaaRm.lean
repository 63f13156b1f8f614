import Derived.Test.YthmblgfcjbiomaaRl
/- Tour and Cost; the laws' pick and has. -/
set_option linter.unusedVariables false
set_option linter.unusedSimpArgs false
namespace Go.Proofs.Ythmblgfcjbiomaa.Rt
open Go.RowKit Ly

theorem pick12_any (c n : Int) (w : World) (hc0 : -9223372036854775808 ≤ c) (hc1 : c ≤ 9223372036854775807) (hn0 : 0 < n) (hn1 : n ≤ 9223372036854775807) :
    Calls Try.prog 11 #[.int .i64 c, .int .i64 n] w (fun e w' => e = .returned (.int .i64 (pickS c n)) ∧ w = w') := by
  by_cases hc : c < 0
  all_goals
    go_enter Try.func11, Try.ntmps11
    go_wp2
    go_ret
    refine ⟨ret_int ?_, rfl⟩
    unfold pickS
    first
      | (rw [if_pos hc, ← Int.neg_tmod, Int.tmod_eq_emod_of_nonneg (by omega)]; done)
      | rw [if_neg (by omega)]
theorem has12_any (l : List Int) (x : Int) (v : Value) (w : World) (h : IntsAt w v l) (t : Bool) (ht : decide (x ∈ l) = t) :
    Calls Try.prog 21 #[v, .int .i64 x] w (fun e w' => e = .returned (.bool t) ∧ w = w') := by
  have H := Lib.hid ht
  clear ht
  obtain ⟨ao, ac, rfl, h1, h2⟩ := h
  go_enter Try.func21, Try.ntmps21
  go_wp2
  go_loop [5] (fun i => ∃ k : Nat, k ≤ l.length ∧ i = .int .i64 k ∧ Hid (¬ x ∈ l.take k)) (fun i => l.length - (intOf i).toNat)
  case atStart => exact ⟨0, Nat.zero_le _, rfl, by show ¬ _; simp⟩
  case round =>
    obtain ⟨k, hk, rfl, hx⟩ := hrel
    by_cases hlt : k < l.length
    · obtain ⟨b1, o1, rfl, l1, c1⟩ := h2 (by omega)
      have g1 := c1 k hlt
      clear c1 h2
      by_cases e : ati l k = x
      · have HE : Hid (x ∈ l) := e ▸ ati_mem hlt
        subst e
        go_wp2
        go_ret
        exact ⟨ret_bool (by rw [← H.out]; simp [HE.out]), rfl⟩
      · have HE : Hid (¬ x ∈ l.take (k + 1)) := fun y => (mem_take_at hlt).1 y |>.elim hx.out e
        have e' : decide (ati l k = x) = false := by simpa using e
        go_wp2
        go_round
        case rel => exact ⟨k + 1, by omega, by go_num, HE⟩
        case measure => simp [intOf]; omega
    · have HE : Hid (¬ x ∈ l) := fun y => hx.out (by rwa [List.take_of_length_le (by omega)])
      go_wp2
      go_ret
      exact ⟨ret_bool (by rw [← H.out]; simp [HE.out]), rfl⟩

set_option maxHeartbeats 4000000 in
theorem cost_any {n : Int} {es : List Ed} {w : World} (v bv : Value) (hv : EdgesAt w v es) (ks : List Int) (hb : IntsAt w bv ks) (hr : RightL n es) (hks : ks.length ≤ 1000000000000000) :
    Calls Try.prog 19 #[.agg #[.int .i64 n, v], bv] w (Ret (.int .i64 (costI es ks)) w) := by
  have HB0 : Hid (Below w.heap.size w (w.alloc (.cells #[.int .i64 n, v] 24))) := (Below.refl _ w).alloc (Nat.le_refl _) _
  have HX0 := Lib.hid (BoxAt.new n v w)
  have HE := Lib.hid (hv.below HB0.out (Nat.le_refl _))
  have HI := Lib.hid (hb.below HB0.out (Nat.le_refl _))
  obtain ⟨Q, HQ⟩ : ∃ Q, Hid (Ret (.int .i64 (costI es ks)) w = Q) := ⟨_, rfl⟩
  rw [HQ.out]
  have HC := Lib.hid fun k => costI_le hr ks k
  have HR : Hid (∀ j, j < es.length → 1 ≤ (ate es j).2.2 ∧ (ate es j).2.2 ≤ 1000) := fun j hj => (hr.at hj).2.2.2
  obtain ⟨eo, ce, rfl⟩ := slE hv
  obtain ⟨bo, cb, rfl⟩ := slI hb
  have h120 : es.length ≤ 120 := hr.2.2.1
  have c1 := HX0.out.c1
  clear hv hb hr
  go_enter Try.func19, Try.ntmps19
  go_upto_region 1 with fail
  generalize w.alloc (.cells #[.int .i64 n, .slice eo es.length ce] 24) = w0 at *
  go_wp2_with fail
  go_loop [5, 10] (fun s i => ∃ k : Nat, k ≤ ks.length ∧ i = .int .i64 k ∧ s = .int .i64 (costI es (ks.take k))) (fun _ i => ks.length - (intOf i).toNat)
  case atStart => exact ⟨0, Nat.zero_le _, rfl, rfl⟩
  case round =>
    obtain ⟨k, hk, rfl, rfl⟩ := hrel
    have hsum := HC.out k
    by_cases hlt : k < ks.length
    · obtain ⟨ba, bc, hb1, hb2, hb3⟩ := HI.out
      cases hb1
      obtain ⟨bb, bof, rfl, lb, hbs⟩ := hb3 (by omega)
      have g0 := hbs k hlt
      have HT := Lib.hid (costI_take es hlt)
      clear hb2 hb3 hbs
      generalize costI es (ks.take k) = s at *
      generalize ati ks k = x at *
      by_cases hx : 0 ≤ x ∧ x < es.length
      · obtain ⟨hx0, hx1⟩ := hx
        obtain ⟨xn, rfl⟩ : ∃ xn : Nat, x = (xn : Int) := ⟨x.toNat, by omega⟩
        have hxn : xn < es.length := by omega
        obtain ⟨ea, ec, he1, he2, he3⟩ := HE.out
        cases he1
        obtain ⟨eb, eof, rfl, le, hes⟩ := he3 (by omega)
        have g2 := (hes xn hxn).2.2
        have hr2 := HR.out xn hxn
        have HT2 : Hid (costI es (ks.take (k + 1)) = s + (ate es xn).2.2) := by
          show _ = _
          rw [HT.out, if_pos ⟨by omega, by simpa using hxn⟩, Int.toNat_natCast]
        clear he2 he3 hes HT
        generalize (ate es xn).2.2 = y at *
        go_wp2_with fail
        go_round
        case rel => exact ⟨k + 1, by omega, by go_num, by rw [HT2.out]⟩
        case measure => simp [intOf]; omega
      · have HT2 : Hid (costI es (ks.take (k + 1)) = s) := by
          show _ = _
          rw [HT.out, if_neg (by omega)]
          omega
        by_cases hx0 : 0 ≤ x
        · have hx1 : decide (x < es.length) = false := by simp; omega
          go_wp2_with fail
          go_round
          case rel => exact ⟨k + 1, by omega, by go_num, by rw [HT2.out]⟩
          case measure => simp [intOf]; omega
        · have hx1 : decide (0 ≤ x) = false := by simpa using hx0
          go_wp2_with fail
          go_round
          case rel => exact ⟨k + 1, by omega, by go_num, by rw [HT2.out]⟩
          case measure => simp [intOf]; omega
    · have hkk : costI es (ks.take k) = costI es ks := by rw [List.take_of_length_le (by omega)]
      rw [hkk]
      have HF : Hid (Q (.returned (.int .i64 (costI es ks))) w0) := by
        show Q _ _
        rw [← HQ.out]
        exact ⟨rfl, HB0.out⟩
      clear hkk
      go_wp2_with fail
      exact HF.out

theorem run_append_rows {P : Program} (w : World) (t ty : TypeId) (base base' : Nat) (e : TypeId) (i : TypeInfo) (z : Value) (size bytes : Nat) (ht : P.underlying t = some (.slice e)) (hi : P.info? e = some i) (hz : i.zero = some z)
    (hsize : i.size = size) (hby : i.bytes = bytes) (hzs : z.cells.size = size) (hsz : 0 < size)
    (v : Value) (n : Nat) (xs : List Value) (hown : w.ownsRow base e size v n xs) (x : Value) (m : Nat) (news : List Value) (hx : w.ownsRow base' e size x m news) (h1 : ∀ u ∈ news, u.oneCell' = true)
    (h63 : n + m ≤ maxLen) (hbytes : (n + m) * bytes ≤ 140737488355328) (hbase : base ≤ w.heap.size) :
    ∃ v' w', (Builtin.append_ #[t, t] ty #[v, x]).run P w = .ok v' w' ∧ w'.ownsRow base e size v' (n + m) (xs ++ news) ∧ w.grownBy w' v.ownBlock ∧ (v'.ownBlock = v.ownBlock ∨ v'.ownBlock = some w.heap.size) := by
  rcases hx.2 with ⟨rfl, rfl⟩ | ⟨g, cap, cur, rfl, hbg, hg, hnc, hcm, hcs, htk⟩
  · have hn : news = [] := by
      have := hx.1
      simp at this
      exact this
    subst hn
    exact ⟨v, w, run_append_owned_none (P := P) w base t ty e i size ht hi v n xs hown, by rw [Nat.add_zero, List.append_nil]; exact hown, ⟨rfl, rfl, rfl, Nat.le_refl _, fun _ _ _ => rfl⟩, .inl rfl⟩
  · obtain ⟨v', w', h2, h3, h4, _, h5⟩ := run_append_own_at (P := P) w base t ty e i z size bytes ht hi hz hsize hby hzs hsz v n xs hown ⟨g, 0, none⟩ m cap news hx.1 (fun j u hu => by
      have hj : j < m * size := by
        rw [← hx.1]
        exact (List.getElem?_eq_some_iff.1 hu).1
      have e1 : cur[j]? = some u := by
        rw [← htk] at hu
        rw [List.getElem?_take, if_pos hj] at hu
        simpa using hu
      rw [show (⟨g, 0, none⟩ : Addr).add j = ⟨g, j, none⟩ by unfold Addr.add; split <;> simp_all]
      unfold World.cell?
      rw [hg]
      simpa using e1) h1 h63 hbytes hbase
    exact ⟨v', w', h2, h3, h4, h5⟩
theorem wpList_append_rows {P : Program} {ops : Array Oper} {rest : List Oper} {o : Oper} {a : Act} {w : World} {Q : Exit → Act → World → Prop} (hgd : o.guard = none) (s x : Operand) (t : TypeId)
    (ho : o.op = .call { callee := .builtin .append, args := #[s, x], argTypes := #[t, t] })
    (base base' : Nat) (e : TypeId) (i : TypeInfo) (z : Value) (size bytes : Nat) (ht : P.underlying t = some (.slice e)) (hi : P.info? e = some i) (hz : i.zero = some z)
    (hsize : i.size = size) (hby : i.bytes = bytes) (hzs : z.cells.size = size) (hsz : 0 < size)
    (v : Value) (n : Nat) (xs : List Value) (hs : a.eval s = v) (hown : w.ownsRow base e size v n xs) (xv : Value) (m : Nat) (news : List Value) (hxv : a.eval x = xv) (hx : w.ownsRow base' e size xv m news) (h1 : ∀ u ∈ news, u.oneCell' = true)
    (h63 : n + m ≤ maxLen) (hbytes : (n + m) * bytes ≤ 140737488355328) (hbase : base ≤ w.heap.size)
    (h : ∀ v' w', w'.ownsRow base e size v' (n + m) (xs ++ news) → w.grownBy w' v.ownBlock → wpList P ops Q rest (a.put o.dst v') w') : wpList P ops Q (o :: rest) a w :=
  wpList_plain hgd fun K hK => by
    obtain ⟨v', w', hr, h2, h3, _⟩ := run_append_rows (P := P) w t o.type base base' e i z size bytes ht hi hz hsize hby hzs hsz v n xs hown xv m news hx h1 h63 hbytes hbase
    unfold Oper.wp execOp
    simp only [ho, resolve, invoke, builtin, Sem.run_bind, Sem.run_pure, Result.andThen_ok, List.map_toArray, List.map_cons, List.map_nil, hs, hxv, hr]
    exact hK _ _ (h v' w' h2 h3)
theorem own_below {B B' n : Nat} {w w' : World} {e : TypeId} {sz : Nat} {v : Value} {xs : List Value} (h : w.ownsRow B e sz v n xs) (hb : Below w.heap.size w w') (hle : B' ≤ B) : w'.ownsRow B' e sz v n xs := by
  refine ⟨h.1, ?_⟩
  rcases h.2 with hn | ⟨b, cap, cur, hv, hbg, hh, hr⟩
  · exact .inl hn
  · exact .inr ⟨b, cap, cur, hv, Nat.le_trans hle hbg, (hb.block b (Array.getElem?_eq_some_iff.1 hh).1).trans hh, hr⟩
theorem intC_ones {l : List Int} : ∀ u ∈ intC l, u.oneCell' = true := fun u hu => by
  simp only [intC, List.mem_map] at hu
  obtain ⟨z, _, rfl⟩ := hu
  rfl
set_option maxHeartbeats 4000000 in
theorem tour_any {n : Int} {es : List Ed} {w : World} (v bv : Value) (hv : EdgesAt w v es) (bl : List Int) (hb : IntsAt w bv bl) (a b c : Int) :
    Calls Try.prog 14 #[.agg #[.int .i64 n, v], bv, .int .i64 a, .int .i64 b, .int .i64 c] w (RetTwo (tourS n es bl a b c) w) := by
  have HB0 : Hid (Below w.heap.size w (w.alloc (.cells #[.int .i64 n, v] 24))) := (Below.refl _ w).alloc (Nat.le_refl _) _
  have HX0 := Lib.hid (BoxAt.new n v w)
  have HE := Lib.hid (hv.below HB0.out (Nat.le_refl _))
  have HI := Lib.hid (hb.below HB0.out (Nat.le_refl _))
  obtain ⟨Q, HQ⟩ : ∃ Q, Hid (RetTwo (tourS n es bl a b c) w = Q) := ⟨_, rfl⟩
  rw [HQ.out]
  have C1 := Lib.hid (route_any (n := n) v bv HE.out bl HI.out a b)
  have C2 := Lib.hid (fun w' (he : EdgesAt w' v es) (hi : IntsAt w' bv bl) => route_any (n := n) v bv he bl hi b c)
  have L1 := routeS_len n es bl a b
  have L2 := routeS_len n es bl b c
  have HTS : Hid (tourS n es bl a b c = (if (routeS n es bl a b).2 = 0 then (if (routeS n es bl b c).2 = 0 then ((routeS n es bl a b).1 ++ (routeS n es bl b c).1, 0) else ([], (routeS n es bl b c).2)) else ([], (routeS n es bl a b).2))) := rfl
  generalize routeS n es bl a b = r1 at *
  generalize routeS n es bl b c = r2 at *
  obtain ⟨l1, e1⟩ := r1
  obtain ⟨l2, e2⟩ := r2
  dsimp only at *
  obtain ⟨eo, ce, rfl⟩ := slE hv
  obtain ⟨bo, cb, rfl⟩ := slI hb
  have c0 := HX0.out.c0
  have c1 := HX0.out.c1
  clear hv hb
  have hlw : w.heap.size < (w.alloc (.cells #[.int .i64 n, .slice eo es.length ce] 24)).heap.size := by simp
  go_enter Try.func14, Try.ntmps14
  go_upto_region 1 with fail
  generalize w.alloc (.cells #[.int .i64 n, .slice eo es.length ce] 24) = w0 at *
  go_upto_region 2 with (go_at_call 12; (with_reducible refine (C1.out).mono ?_); rintro e w1 ⟨v1, rfl, ho1, hb1⟩)
  have HX1 := Lib.hid (HX0.out.below hb1)
  have HB1 := Lib.hid (HB0.out.trans (hb1.mono HB0.out.size))
  have HO1 := Lib.hid ho1
  have HE1 := Lib.hid (HE.out.below hb1 (Nat.le_refl _))
  have HI1 := Lib.hid (HI.out.below hb1 (Nat.le_refl _))
  have hb1s := hb1.size
  clear ho1 hb1 c0 c1
  have c0 := HX1.out.c0
  have c1 := HX1.out.c1
  by_cases h1 : e1 = 0
  · subst h1
    go_upto_region 5 with (go_at_call 12; (with_reducible refine (C2.out _ HE1.out HI1.out).mono ?_); rintro e w2 ⟨v2, rfl, ho2, hb2⟩)
    have HB2 := Lib.hid (HB1.out.trans (hb2.mono HB1.out.size))
    have HO2 := Lib.hid ho2
    have HO12 := Lib.hid (own_below HO1.out hb2 (Nat.le_refl _))
    have hb2s := hb2.size
    clear ho2 hb2 c0 c1
    by_cases h2 : e2 = 0
    · subst h2
      obtain ⟨i0, hi0, hz0, hz1, hz2⟩ := info_parts int_info
      go_wp2_with (at_builtin; (refine wpList_append_rows rfl _ _ 26 rfl w0.heap.size w1.heap.size 3 i0 _ 1 8 Try.underlying26 hi0 hz0 hz1 hz2 rfl (by omega) v1 l1.length (intC l1) rfl HO12.out v2 l2.length (intC l2) rfl HO2.out intC_ones (by unfold maxLen; omega) (by omega) (by omega) ?_); intro v3 w3 ho3 hg3)
      have HB3 : Hid (Below w.heap.size w w3) := HB2.out.grown hg3 (by omega) (fun k e => by have := (HO12.out.lt k e).1; omega)
      have HO3 : Hid (w3.ownsRow w.heap.size 3 1 v3 (l1 ++ l2).length (intC (l1 ++ l2))) := by
        show World.ownsRow _ _ _ _ _ _ _
        rw [intC_append, List.length_append]
        exact own_below ho3 (Below.refl _ _) (by omega)
      clear ho3 hg3
      go_wp2_with fail
      rw [← HQ.out, HTS.out]
      exact ⟨_, rfl, HO3.out, HB3.out⟩
    · have d2 : (e2 == 0) = false := by simpa using h2
      have HF : Hid (tourS n es bl a b c = ([], e2)) := by
        show _ = _
        rw [HTS.out, if_pos trivial, if_neg h2]
      go_wp2_with fail
      rw [← HQ.out, HF.out]
      exact ⟨_, rfl, World.ownsRow_nil _ _ _ _, HB2.out⟩
  · have d1 : (e1 == 0) = false := by simpa using h1
    have HF : Hid (tourS n es bl a b c = ([], e1)) := by
      show _ = _
      rw [HTS.out, if_neg h1]
    go_wp2_with fail
    rw [← HQ.out, HF.out]
    exact ⟨_, rfl, World.ownsRow_nil _ _ _ _, HB1.out⟩
end Go.Proofs.Ythmblgfcjbiomaa.Rt
