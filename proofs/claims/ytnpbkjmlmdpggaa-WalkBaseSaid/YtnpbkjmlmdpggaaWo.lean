import Derived.Test.YtnpbkjmlmdpggaaWn
import Derived.Sort.CutIn
/- comesTo: a range from behind. -/
set_option linter.unusedVariables false
set_option linter.unusedSimpArgs false
namespace Go.Proofs.Ytnpbkjmlmdpggaa.Wk
open Go.RowKit Go.Shelf Ly Od
attribute [local go_sem] Oper.semAt_some

theorem ret_i {a b : Int} (h : a = b) : Ending.returned (.int .i64 a) = .returned (.int .i64 b) := by rw [h]
set_option maxHeartbeats 1000000 in
theorem index_any (l : List Int) (x : Int) (v : Value) (w : World) (h : IntsAt w v l) :
    Calls Try.prog 61 #[v, .int .i64 x] w (fun e w' => (∃ r : Int, e = .returned (.int .i64 r) ∧ Hid (0 ≤ r ↔ x ∈ l)) ∧ w = w') := by
  obtain ⟨ao, ac, rfl, h1, h2⟩ := h
  go_enter Try.func61, Try.ntmps61
  go_wp2
  go_loop [8] (fun i => ∃ k : Nat, k ≤ l.length ∧ i = .int .i64 k ∧ Hid (¬ x ∈ l.take k)) (fun i => l.length - (intOf i).toNat)
  case atStart => exact ⟨0, Nat.zero_le _, rfl, by show ¬ _; simp⟩
  case round =>
    obtain ⟨k, hk, rfl, hx⟩ := hrel
    by_cases hlt : k < l.length
    · obtain ⟨b1, o1, rfl, l1, c1⟩ := h2 (by omega)
      have g1 := c1 k hlt
      clear c1 h2
      by_cases e : ati l k = x
      · have HE : Hid (x ∈ l) := e ▸ ati_mem hlt
        subst e
        go_wp2
        go_ret
        exact ⟨⟨_, rfl, by show _ ↔ _; simp [HE.out]⟩, rfl⟩
      · have HE : Hid (¬ x ∈ l.take (k + 1)) := fun y => (mem_take_at hlt).1 y |>.elim hx.out e
        have e' : decide (x = ati l k) = false := by simpa using fun h => e h.symm
        go_wp2
        go_round
        case rel => exact ⟨k + 1, by omega, by go_num, HE⟩
        case measure => simp [intOf]; omega
    · have HE : Hid (¬ x ∈ l) := fun y => hx.out (by rwa [List.take_of_length_le (by omega)])
      go_wp2
      go_ret
      exact ⟨⟨_, rfl, by show _ ↔ _; simp [HE.out]⟩, rfl⟩
theorem contains_any (l : List Int) (x : Int) (v : Value) (w : World) (h : IntsAt w v l) (t : Bool) (ht : decide (x ∈ l) = t) :
    Calls Try.prog 59 #[v, .int .i64 x] w (fun e w' => e = .returned (.bool t) ∧ w = w') := by
  have C := Lib.hid (index_any l x v w h)
  have H := Lib.hid ht
  clear ht h
  obtain ⟨Q, HQ⟩ : ∃ Q, Hid ((fun e w' => e = Ending.returned (.bool t) ∧ w = w') = Q) := ⟨_, rfl⟩
  rw [HQ.out]
  go_enter Try.func59, Try.ntmps59
  go_wp2_with (go_at_call 61; (with_reducible refine (C.out).mono ?_); rintro e w1 ⟨⟨r, rfl, HR⟩, rfl⟩)
  rw [← HQ.out]
  exact ⟨ret_bool (by rw [← H.out, decide_eq_decide]; exact HR.out), rfl⟩

theorem stable_ints (l : List Int) : Stable (fun z w => IntsAt w z l) := fun z w w' h hb => h.below hb (Nat.le_refl _)
/-- A round's order, in its box. -/
def BoxO (W : World) (b : Nat) (ov : Value) : Prop := ∃ c0 c1 c2 c3 c4 c5, ov = .agg #[c0, c1, c2, c3, c4, c5] ∧ W.heap[b]? = some (.cells #[c0, c1, c2, c3, c4, c5] 25 (0, 0))
theorem base_len (nm : List UInt8 → Bool) (x : O) : (baseS nm x).length ≤ 127 := by
  unfold baseS
  cases h : rightO nm x with
  | false => simp
  | true =>
    rw [if_pos rfl, baseN_len]
    have := relK_le x.ns
    have := (right_lens h).2.1
    omega
/-- What is kept of the boxes. -/
structure CB (w : World) (num node : Int) (r : Bool) (W : World) : Prop where
  n : HoldsA W w.heap.size 0 (.int .i64 num)
  d : HoldsA W (w.heap.size + 1) 0 (.int .i64 node)
  r : HoldsA W (w.heap.size + 1 + 1) 0 (.bool r)
  bel : Below w.heap.size w W
theorem CB.gw {w : World} {num node : Int} {r : Bool} {B : Nat} {X Y : World} (h : CB w num node r X) (g : Gw B X Y) (hb : w.heap.size + 1 + 1 < B) : CB w num node r Y :=
  ⟨h.n.gw g (by omega), h.d.gw g (by omega), h.r.gw g hb, below_gw h.bel g (by omega) (Nat.le_refl _)⟩
theorem CB.grow {w : World} {num node : Int} {r : Bool} {X Y : World} (h : CB w num node r X) (g : Below X.heap.size X Y) : CB w num node r Y :=
  ⟨h.n.grow g, h.d.grow g, h.r.grow g, h.bel.trans (g.mono h.bel.size)⟩
set_option maxRecDepth 100000 in
set_option maxHeartbeats 4000000 in
theorem comesTo_any {S : Nat → Prop} {l : List O} {w : World} (v : Value) (hp : OrdsAt S w v l) (num node : Int) (hlen : l.length * 8 ≤ 140737488355328) :
    Calls Try.prog 53 #[v, .int .i64 num, .int .i64 node] w (Ret (.bool (comesK Tp.nameB l num node l.length)) w) := by
  obtain ⟨Q, HQ⟩ : ∃ Q, Hid (Ret (.bool (comesK Tp.nameB l num node l.length)) w = Q) := ⟨_, rfl⟩
  rw [HQ.out]
  have HP := Lib.hid hp
  obtain ⟨ao, ac, rfl, hcap, -, -⟩ := hp
  obtain ⟨A, C, A', C', hov⟩ := HP.out.vals
  have HOV := Lib.hid hov
  clear hov
  obtain ⟨N, HN⟩ : ∃ N, Hid (l.length = N) := ⟨_, rfl⟩
  rw [HN.out] at HP hcap HQ hlen
  rw [HN.out]
  refine (callsIn_wide (n := 6)).1 ?_
  refine callsIn_of_wp_marks Try.func53 rfl trivial ?_ rfl
  simp only [Try.ntmps53, List.size_toArray, List.length_cons, List.length_nil, Nat.reduceAdd, Nat.reduceSub, Array.replicate_succ, Array.replicate_zero, List.push_toArray, List.append_toArray, List.nil_append, List.cons_append]
  gi_wp2_with (refine ⟨trivial, ?_⟩; gi_at_call 58; refine (callsIn_wide.2 (backward_any _ _ _ _)).mono ?_; rintro e w' ⟨rfl, rfl⟩)
  obtain ⟨wa, hwa⟩ : ∃ wa, (w.alloc (.cells #[.int .i64 num] 3)).alloc (.cells #[.int .i64 node] 3) = wa := ⟨_, rfl⟩
  obtain ⟨w4, hw4⟩ : ∃ w4, (wa.alloc (.cells #[.bool false] 4)).alloc (.cells #[.slice ao N ac] 40) = w4 := ⟨_, rfl⟩
  rw [hwa, hw4]
  obtain ⟨b1, s1, k1, k2⟩ := two_cells w _ _ _ _ hwa
  obtain ⟨b2, s2, k3, k4⟩ := two_cells wa _ _ _ _ hw4
  rw [s1] at k3 k4 s2
  have hB4 : Below w.heap.size w w4 := b1.trans (b2.mono b1.size)
  have HCB : Hid (CB w num node false w4) := ⟨(k1 0 _ rfl).grow b2, (k2 0 _ rfl).grow b2, k3 0 _ rfl, hB4⟩
  have hbx := (k4 0 _ rfl).1
  have HSEQ := Lib.hid (back_seq (V := fun k => k < w.heap.size ∨ k = w.heap.size + 2 + 1) 5 (by omega) HP.out hB4 (fun _ h => .inl h) (.inr rfl) hbx (ovF l A C A' C') (by rw [← HN.out]; exact HOV.out))
  rw [HN.out] at HSEQ
  have hs4 : w4.heap.size = w.heap.size + 1 + 1 + 1 + 1 := by omega
  clear hwa hw4 b1 b2 k1 k2 k3 k4 s1 s2 hB4 hbx
  refine wpIn_rangeFunc_ownV (by rfl) (by omega) (gf := 60) (lb := #[.pointer (some ⟨w.heap.size + 1 + 1 + 1, 0, none⟩)]) rfl trivial (enters_of Try.func60 (by kernel_rfl) rfl)
    HSEQ.out (fun _ => rfl) (fun k (hk : k < w.heap.size ∨ k = w.heap.size + 2 + 1) => by omega)
    (fun pre W => Hid (CB w num node false W) ∧ Hid (comesK Tp.nameB l num node N = comesK Tp.nameB l num node (N - pre.length)))
    (fun c pre W => (c = .exit 0 ∧ Hid (CB w num node false W) ∧ Hid (comesK Tp.nameB l num node N = false)) ∨ (c = .ret ∧ Hid (CB w num node true W) ∧ Hid (comesK Tp.nameB l num node N = true)))
    (fun s X Y g h => ⟨h.1.out.gw g (by omega), h.2⟩)
    (fun c s X Y g h => by
      rcases h with ⟨e, h1, h2⟩ | ⟨e, h1, h2⟩
      · exact .inl ⟨e, h1.out.gw g (by omega), h2⟩
      · exact .inr ⟨e, h1.out.gw g (by omega), h2⟩)
    ⟨HCB, rfl⟩
    (fun x a' W => ∃ b8, w4.heap.size + 2 ≤ b8 ∧ BoxO W b8 (ovF l A C A' C' x) ∧ a' = { tmps := #[.slice ao N ac, .int .i64 num, .int .i64 node, undef, .pointer (some ⟨w.heap.size, 0, none⟩), .pointer (some ⟨w.heap.size + 1, 0, none⟩), .pointer (some ⟨w.heap.size + 1 + 1, 0, none⟩), undef, .pointer (some ⟨b8, 0, none⟩), .slice ao N ac, .func (.func 60) #[] #[.pointer (some ⟨w.heap.size + 1 + 1 + 1, 0, none⟩)], .int .i64 (x : Int), ovF l A C A' C' x, undef, undef, undef, undef, undef, undef, undef, undef, undef], defers := [] })
    (fun x a X Y g h => by
      obtain ⟨b8, h1, ⟨c0, c1, c2, c3, c4, c5, e, h2⟩, h3⟩ := h
      exact ⟨b8, h1, ⟨c0, c1, c2, c3, c4, c5, e, (g.block b8 (Array.getElem?_eq_some_iff.1 h2).1 (by omega) (by omega)).trans h2⟩, h3⟩)
    ?assign ?body ?done ?stop
  case assign =>
    intro ly x W K hs hK
    unfold ovF at hK ⊢
    gi_wp2
    exact hK _ _ ((Below.refl _ W).alloc (Nat.le_refl _) _) ⟨W.heap.size, hs, ⟨_, _, _, _, _, _, rfl, heap_alloc_new W _⟩, rfl⟩
  case body =>
    rintro ly pre x a' W hsz ⟨HH, HCK⟩ ⟨b8, hb8, ⟨c0, c1, c2, c3, c4, c5, ee, hbo⟩, rfl⟩ hsp
    obtain ⟨hlt, -, hx⟩ := back_next hsp
    have hxN : x < N := by omega
    obtain ⟨hOA, -⟩ := HOV.out x (by rw [HN.out]; exact hxN)
    have HPL : Hid ((pre ++ [x]).length = pre.length + 1) := by show _ = _; simp
    rw [show N - pre.length = x + 1 by omega, comesK] at HCK
    have HX1 : Hid (N - (pre.length + 1) = x) := by show _ = _; omega
    have HPL2 := Lib.hid (show N - (pre ++ [x]).length = x by rw [HPL.out]; exact HX1.out)
    have hU : Hid (∀ k, VB (fun k => k < w.heap.size ∨ k = w.heap.size + 2 + 1) w4.heap.size k → k ≠ w.heap.size + 1 + 1) := fun k hk => by
      rcases hk with h | h | h
      · have : k < w.heap.size ∨ k = w.heap.size + 2 + 1 := h
        omega
      all_goals omega
    have hl4 : Hid (w4.heap.size = w.heap.size + 1 + 1 + 1 + 1) := hs4
    have HSL : Hid (w4.heap.size + 2 ≤ W.heap.size) := hsz
    unfold ovF at ee hOA
    simp only [Value.agg.injEq, Array.mk.injEq, List.cons.injEq, and_true] at ee
    obtain ⟨rfl, rfl, rfl, rfl, rfl, rfl⟩ := ee
    have HCK2 : Hid (comesK Tp.nameB l num node N = (decide ((l.getD x o0).o = num) && (decide (node ∈ stopsL (baseS Tp.nameB (l.getD x o0))) || comesK Tp.nameB l num node x))) := HCK.out
    have hbl := base_len Tp.nameB (l.getD x o0)
    have hb8lt := (Array.getElem?_eq_some_iff.1 hbo).1
    obtain ⟨n0, nf⟩ := HH.out.n
    obtain ⟨d0, df⟩ := HH.out.d
    obtain ⟨r0, rf⟩ := HH.out.r
    have HOA := Lib.hid (hOA.below HH.out.bel (Nat.le_refl _))
    have hwW := HH.out.bel.size
    clear hsp hlt HSEQ hs4 hsz HCK hOA hx
    by_cases ho : (l.getD x o0).o = num
    · rw [ho] at hbo HOA
      rw [show decide ((l.getD x o0).o = num) = true by simpa using ho, Bool.true_and] at HCK2
      have HOB := Lib.hid hbo
      obtain ⟨o0', o1, o2, o3, o4, o5⟩ := six_of hbo
      clear ho hbo
      obtain ⟨tt, htt⟩ : ∃ tt, decide (node ∈ stopsL (baseS Tp.nameB (l.getD x o0))) = tt := ⟨_, rfl⟩
      have HTT := Lib.hid htt
      rw [htt] at HCK2
      clear htt
      gi_upto_region 4 with fail
      rename_i KK AA
      clear o0' o1 o2 o3 o4 o5
      refine wpIn_region_grow_all mixed (fun zs => { tmps := List.toArray (Value.slice ao N ac :: Value.int .i64 num :: Value.int .i64 node :: undef :: Value.pointer (some ⟨w.heap.size, 0, none⟩) :: Value.pointer (some ⟨w.heap.size + 1, 0, none⟩) :: Value.pointer (some ⟨w.heap.size + 1 + 1, 0, none⟩) :: undef :: Value.pointer (some ⟨b8, 0, none⟩) :: Value.slice ao N ac :: Value.func (Fn.func 60) #[] #[Value.pointer (some ⟨w.heap.size + 1 + 1 + 1, 0, none⟩)] :: Value.int .i64 (x : Int) :: ovF l A C A' C' x :: Value.pointer (some ⟨b8, 2, none⟩) :: Value.int .i64 num :: Value.int .i64 num :: Value.bool false :: zs.getD 0 undef :: zs.getD 1 undef :: zs.getD 2 undef :: zs.getD 3 undef :: zs.getD 4 undef :: []), defers := [] }) [(fun z _ => z = Value.agg #[Value.int .i64 (l.getD x o0).h, Value.string ⟨(l.getD x o0).v.toArray⟩, Value.int .i64 num, Value.int .i64 (l.getD x o0).u, Value.slice (A x) (l.getD x o0).ns.length (C x), Value.slice (A' x) (l.getD x o0).es.length (C' x)]), (fun z w => IntsAt w z (baseS Tp.nameB (l.getD x o0))), (fun z w => IntsAt w z (stopsL (baseS Tp.nameB (l.getD x o0)))), (fun z _ => z = Value.int .i64 node), (fun z _ => z = Value.bool tt)] [undef, undef, undef, undef, undef] rfl rfl rfl ?_ (by kernel_rfl) ?_ ?_
      · intro p hp
        simp only [List.mem_cons, List.not_mem_nil, or_false] at hp
        rcases hp with rfl | rfl | rfl | rfl | rfl
        all_goals first | exact stable_eq _ | exact stable_ints _
      · intro i hi zs lr wz o hz hF ho hpre
        have hi' : i < 5 := hi
        clear AA
        have HZ := Lib.hid (HOA.out.below hF.bel (Nat.le_refl _))
        have d1 := (hF.bel.cell (p := ⟨w.heap.size + 1, 0, none⟩) (cell_lt d0)).trans d0
        obtain ⟨k0, k1, k2, k3, k4, k5⟩ := six_of ((hF.bel.block b8 hb8lt).trans HOB.out)
        match zs, (show zs.length = 5 from hz) with
        | z0 :: z1 :: z2 :: z3 :: z4 :: [], _ =>
          clear hz hi
          change wpOpIn _ _ _ _ _ _ _ { tmps := List.toArray (Value.slice ao N ac :: Value.int .i64 num :: Value.int .i64 node :: undef :: Value.pointer (some ⟨w.heap.size, 0, none⟩) :: Value.pointer (some ⟨w.heap.size + 1, 0, none⟩) :: Value.pointer (some ⟨w.heap.size + 1 + 1, 0, none⟩) :: undef :: Value.pointer (some ⟨b8, 0, none⟩) :: Value.slice ao N ac :: Value.func (Fn.func 60) #[] #[Value.pointer (some ⟨w.heap.size + 1 + 1 + 1, 0, none⟩)] :: Value.int .i64 (x : Int) :: ovF l A C A' C' x :: Value.pointer (some ⟨b8, 2, none⟩) :: Value.int .i64 num :: Value.int .i64 num :: Value.bool false :: z0 :: z1 :: z2 :: z3 :: z4 :: []), defers := [] } _
          have hc : i = 0 ∨ i = 1 ∨ i = 2 ∨ i = 3 ∨ i = 4 := by omega
          clear hi'
          rcases hc with rfl | rfl | rfl | rfl | rfl
          · clear ho hpre
            refine wpOpIn_here rfl (by intro c h; cases h) (fun K' hK => ?_)
            go_simp
            exact hK _ _ ⟨_, rfl, Below.refl _ _, fun p hp => by cases (show some (fun z _ => z = Value.agg #[Value.int .i64 (l.getD x o0).h, Value.string ⟨(l.getD x o0).v.toArray⟩, Value.int .i64 num, Value.int .i64 (l.getD x o0).u, Value.slice (A x) (l.getD x o0).ns.length (C x), Value.slice (A' x) (l.getD x o0).es.length (C' x)]) = some p from hp); exact rfl⟩
          · have p0 := hF.fact 0 _ _ rfl rfl (hpre ⟨0, .data⟩ (by cases ho; simp) rfl)
            subst p0
            clear ho hpre
            refine wpOpIn_here rfl (by intro c h; cases h) (fun K' hK => ?_)
            go_simp
            refine (base_any _ HZ.out).mono ?_
            rintro e7 w7 ⟨zv, rfl, hzi, hb7⟩
            exact hK _ _ ⟨_, rfl, hb7, fun p hp => by cases (show some (fun z w => IntsAt w z (baseS Tp.nameB (l.getD x o0))) = some p from hp); exact hzi⟩
          · have p1 := hF.fact 1 _ _ rfl rfl (hpre ⟨1, .data⟩ (by cases ho; simp) rfl)
            obtain ⟨sa, sn, sc, rfl⟩ := slIn p1
            clear ho hpre
            refine wpOpIn_here rfl (by intro c h; cases h) (fun K' hK => ?_)
            go_simp
            refine (stops_any _ p1 (by omega)).mono ?_
            rintro e7 w7 ⟨zv, rfl, hzi, hb7⟩
            exact hK _ _ ⟨_, rfl, hb7, fun p hp => by cases (show some (fun z w => IntsAt w z (stopsL (baseS Tp.nameB (l.getD x o0)))) = some p from hp); exact hzi⟩
          · clear ho hpre
            refine wpOpIn_here rfl (by intro c h; cases h) (fun K' hK => ?_)
            go_simp
            exact hK _ _ ⟨_, rfl, Below.refl _ _, fun p hp => by cases (show some (fun z _ => z = Value.int .i64 node) = some p from hp); exact rfl⟩
          · have p2 := hF.fact 2 _ _ rfl rfl (hpre ⟨2, .data⟩ (by cases ho; simp) rfl)
            have p3 := hF.fact 3 _ _ rfl rfl (hpre ⟨3, .data⟩ (by cases ho; simp) rfl)
            subst p3
            obtain ⟨sa, sn, sc, rfl⟩ := slIn p2
            clear ho hpre
            refine wpOpIn_here rfl (by intro c h; cases h) (fun K' hK => ?_)
            go_simp
            refine (contains_any _ node _ _ p2 tt HTT.out).mono ?_
            rintro e7 w7 ⟨rfl, rfl⟩
            exact hK _ _ ⟨_, rfl, Below.refl _ _, fun p hp => by cases (show some (fun z _ => z = Value.bool tt) = some p from hp); exact rfl⟩
      · intro zs wz hz hbel hev
        match zs, (show zs.length = 5 from hz) with
        | z0 :: z1 :: z2 :: z3 :: z4 :: [], _ =>
          have p0 := hev 0 _ _ rfl rfl
          have p1 := hev 1 _ _ rfl rfl
          have p2 := hev 2 _ _ rfl rfl
          have p3 := hev 3 _ _ rfl rfl
          have p4 := hev 4 _ _ rfl rfl
          subst p0 p3 p4
          clear hz hev
          refine AA _ _ ?_
          clear AA
          have HHZ := Lib.hid (HH.out.grow hbel)
          obtain ⟨r1, rf1⟩ := HHZ.out.r
          have HKV : Hid (Kv (VB (fun k => k < w.heap.size ∨ k = w.heap.size + 2 + 1) w4.heap.size) W (wz.setCell ⟨w.heap.size + 1 + 1, 0, none⟩ (.bool true))) := kv_store hbel (fun k hk => ⟨by
            have h1 := HSL.out
            rcases hk with h | h | h
            · have : k < w.heap.size ∨ k = w.heap.size + 2 + 1 := h
              have := hl4.out
              omega
            all_goals omega, hU.out k hk⟩) _
          have HKV0 : Hid (Kv (VB (fun k => k < w.heap.size ∨ k = w.heap.size + 2 + 1) w4.heap.size) W wz) := Kv.of_below hbel (fun k hk => by
            have h1 := HSL.out
            rcases hk with h | h | h
            · have : k < w.heap.size ∨ k = w.heap.size + 2 + 1 := h
              have := hl4.out
              omega
            all_goals omega)
          clear hbel p1 p2 HOB HOA r0 rf n0 nf d0 df
          cases tt with
          | true =>
            gi_wp2
            exact ⟨HKV.out, .inr ⟨rfl, ⟨HHZ.out.n.other (by omega) _, HHZ.out.d.other (by omega) _, HHZ.out.r.set _, HHZ.out.bel.setCell (p := ⟨w.heap.size + 1 + 1, 0, none⟩) (by show _ ≤ w.heap.size + 1 + 1; omega) _⟩, HCK2⟩⟩
          | false =>
            gi_wp2
            refine ⟨HKV0.out, HHZ, ?_⟩
            rw [HPL2.out]
            exact HCK2
    · rw [show decide ((l.getD x o0).o = num) = false by simpa using ho, Bool.false_and] at HCK2
      have ho1 : ((l[x]?.getD o0).o == num) = false := by simpa using ho
      have ho2 : ((l[x]?.getD o0).o != num) = true := by simpa using ho
      obtain ⟨o0', o1, o2, o3, o4, o5⟩ := six_of hbo
      clear ho hbo HOA
      gi_wp2
      exact ⟨Kv.refl _ _, .inl ⟨rfl, HH, HCK2⟩⟩
  case done =>
    rintro D xs W hD rfl ⟨HH, HCK⟩ hK
    rw [back_len, Nat.sub_self] at HCK
    have hr : comesK Tp.nameB l num node N = false := HCK.out
    rw [hr] at HQ
    obtain ⟨c0, f0⟩ := HH.out.r
    have hl4 : w.heap.size + 1 + 1 < w4.heap.size := by omega
    clear HSEQ hs4
    gi_wp2
    have hK' := (KeepsOthers.setCell W ⟨w.heap.size + 1 + 1, 0, none⟩ (.bool false)).same D _ hK rfl
    refine ⟨by simp, .inl ⟨_, _, rfl, run_takeDeferred hK', ?_⟩⟩
    obtain ⟨hc5, -⟩ := (HH.out.r.set (.bool false)).gw (Gw.put _ (.deferred none) (.inl hD)) hl4
    refine ⟨.bool false, ?_, ?_⟩
    · simp [results, Try.f53, go_sem, hc5]
    · rw [← HQ.out]
      exact ⟨rfl, below_gw (HH.out.bel.setCell (p := ⟨w.heap.size + 1 + 1, 0, none⟩) (by show _ ≤ w.heap.size + 1 + 1; omega) _) (Gw.put _ (.deferred none) (.inl hD)) (by omega) (Nat.le_refl _)⟩
  case stop =>
    rintro D c pre W hD hpre hIx hK
    have hl4 : w.heap.size + 1 + 1 < w4.heap.size := by omega
    rcases hIx with ⟨rfl, HH, hr⟩ | ⟨rfl, HH, hr⟩
    · rw [hr.out] at HQ
      obtain ⟨c0, f0⟩ := HH.out.r
      clear HSEQ hs4
      gi_wp2
      have hK' := (KeepsOthers.setCell W ⟨w.heap.size + 1 + 1, 0, none⟩ (.bool false)).same D _ hK rfl
      refine ⟨by simp, .inl ⟨_, _, rfl, run_takeDeferred hK', ?_⟩⟩
      obtain ⟨hc5, -⟩ := (HH.out.r.set (.bool false)).gw (Gw.put _ (.deferred none) (.inl hD)) hl4
      refine ⟨.bool false, ?_, ?_⟩
      · simp [results, Try.f53, go_sem, hc5]
      · rw [← HQ.out]
        exact ⟨rfl, below_gw (HH.out.bel.setCell (p := ⟨w.heap.size + 1 + 1, 0, none⟩) (by show _ ≤ w.heap.size + 1 + 1; omega) _) (Gw.put _ (.deferred none) (.inl hD)) (by omega) (Nat.le_refl _)⟩
    · rw [hr.out] at HQ
      obtain ⟨c0, f0⟩ := HH.out.r
      clear HSEQ hs4
      gi_wp2
      refine ⟨by simp, .inl ⟨_, _, rfl, run_takeDeferred hK, ?_⟩⟩
      obtain ⟨hc5, -⟩ := HH.out.r.gw (Gw.put W (.deferred none) (.inl hD)) hl4
      refine ⟨.bool true, ?_, ?_⟩
      · simp [results, Try.f53, go_sem, hc5]
      · rw [← HQ.out]
        exact ⟨rfl, below_gw HH.out.bel (Gw.put W (.deferred none) (.inl hD)) (by omega) (Nat.le_refl _)⟩
end Go.Proofs.Ytnpbkjmlmdpggaa.Wk
