import Derived.Test.YtcbfjkigmlmohaaYh
/- Strong. -/
set_option linter.unusedVariables false
set_option linter.unusedSimpArgs false
namespace Go.Proofs.Ytcbfjkigmlmohaa.Ly
open Go.RowKit

theorem part_bool (c : List Bool) (i : Nat) (h : i < c.length) (w : World) : (part 4 (boolC c) i).run Try.prog w = .ok (.bool (atb c i)) w := by
  unfold part
  have := boolC_get h
  simp [Sem.run_bind, Try.isAgg4, this]
theorem eq_bool (a b : Bool) (w : World) : (Op.equalIn 9999 4 (.bool a) (.bool b)).run Try.prog w = .ok (a == b) w := by
  rw [show (9999 : Nat) = 9998 + 1 from rfl, Op.equalIn]
  simp [Sem.run_bind, run_underlying Try.underlying4]
theorem eq_loop_yes (c d : List Bool) (hc : c.length = 40) (hd : d.length = 40) (w : World) : ∀ (m s : Nat), s + m = 40 → (∀ i, s ≤ i → i < 40 → atb c i = atb d i) →
    (forIn (List.range' s m) ((none, ()) : Option Bool × Unit) fun i __s => (do
            let __do_lift ← part 4 (boolC c) i
            let __do_lift_1 ← part 4 (boolC d) i
            let __do_lift ← Op.equalIn 9999 4 __do_lift __do_lift_1
            if (!__do_lift) = true then pure (ForInStep.done (some false, ())) else pure (ForInStep.yield (none, ())) : Sem (ForInStep (Option Bool × Unit)))).run Try.prog w =
      .ok (none, ()) w
  | 0, s, h, _ => by simp
  | m + 1, s, h, ha => by
    rw [List.range'_succ, List.forIn_cons]
    simp only [Sem.run_bind, part_bool c s (by omega), part_bool d s (by omega), eq_bool, Result.andThen_ok]
    have e : (atb c s == atb d s) = true := by simpa using ha s (Nat.le_refl _) (by omega)
    simp only [e, Bool.not_true, Bool.false_eq_true, if_false, Sem.run_pure, Result.andThen_ok]
    exact eq_loop_yes c d hc hd w m (s + 1) (by omega) fun i h1 h2 => ha i (by omega) h2
theorem eq_loop_no (c d : List Bool) (hc : c.length = 40) (hd : d.length = 40) (w : World) : ∀ (m s : Nat), s + m = 40 → (∃ i, s ≤ i ∧ i < 40 ∧ atb c i ≠ atb d i) →
    (forIn (List.range' s m) ((none, ()) : Option Bool × Unit) fun i __s => (do
            let __do_lift ← part 4 (boolC c) i
            let __do_lift_1 ← part 4 (boolC d) i
            let __do_lift ← Op.equalIn 9999 4 __do_lift __do_lift_1
            if (!__do_lift) = true then pure (ForInStep.done (some false, ())) else pure (ForInStep.yield (none, ())) : Sem (ForInStep (Option Bool × Unit)))).run Try.prog w =
      .ok (some false, ()) w
  | 0, s, h, ⟨i, h1, h2, _⟩ => by omega
  | m + 1, s, h, ⟨i, h1, h2, h3⟩ => by
    rw [List.range'_succ, List.forIn_cons]
    simp only [Sem.run_bind, part_bool c s (by omega), part_bool d s (by omega), eq_bool, Result.andThen_ok]
    cases e : atb c s == atb d s with
    | true =>
      simp only [Bool.not_true, Bool.false_eq_true, if_false, Sem.run_pure, Result.andThen_ok]
      refine eq_loop_no c d hc hd w m (s + 1) (by omega) ⟨i, ?_, h2, h3⟩
      by_cases x : i = s
      · subst x
        exact absurd (by simpa using e) h3
      · omega
    | false => simp only [Bool.not_false, if_true, Sem.run_pure, Result.andThen_ok]
/-- '==' of rows of forty bools. -/
theorem eqN_run (c d : List Bool) (hc : c.length = 40) (hd : d.length = 40) (w : World) (t : Bool) (ht : decide (c = d) = t) : (Op.equalIn 10000 49 (.agg (boolC c)) (.agg (boolC d))).run Try.prog w = .ok t w := by
  rw [show (10000 : Nat) = 9999 + 1 from rfl, Op.equalIn]
  simp only [Sem.run_bind, run_underlying Try.underlying49, Result.andThen_ok]
  rw [Try.sizeOf4]
  simp only [Result.andThen_ok, Std.Legacy.Range.forIn_eq_forIn_range', Std.Legacy.Range.size, Nat.sub_zero, Nat.add_sub_cancel, Nat.div_one, Nat.mul_one]
  by_cases e : c = d
  · rw [eq_loop_yes c d hc hd w 40 0 (by omega) (fun i _ _ => by rw [e])]
    rw [decide_eq_true e] at ht
    subst ht
    simp
  · have : ∃ i, 0 ≤ i ∧ i < 40 ∧ atb c i ≠ atb d i := by
      apply Classical.byContradiction
      intro h
      exact e (list_ext40 hc hd fun i hi => Classical.byContradiction fun x => h ⟨i, Nat.zero_le _, hi, x⟩)
    rw [eq_loop_no c d hc hd w 40 0 (by omega) this]
    rw [decide_eq_false e] at ht
    subst ht
    simp

/-- A row that is read, at a step of a region that only reads. -/
theorem wpQuiet_load_row {P : Program} {ops : Array Oper} {C : World → Prop} {Q : Act → Prop} {a : Act} {o : Oper} {rest : List Oper} (hgd : o.guard = none) (ty : TypeId) (x : Operand) (ho : o.op = .load ty x)
    (g : Nat) (hx : a.eval x = .pointer (some ⟨g, 0, none⟩)) (t : TypeId) (cs : Array Value) (fr : Nat × Nat) (d : TypeDesc) (hg : ∀ w, C w → w.heap[g]? = some (.cells cs t fr))
    (hu : P.underlying ty = some d) (hd : (match d with | .struct _ | .array _ _ => true | _ => false) = true) (hi : (P.info? ty).map (·.size) = some cs.size)
    (h : wpQuiet P ops C Q rest (a.put o.dst (.agg cs))) : wpQuiet P ops C Q (o :: rest) a := by
  unfold wpQuiet
  rw [if_pos (by simp [Region.wanted, hgd])]
  refine ⟨_, fun w hw => ?_, h⟩
  unfold Oper.quietAt execOp
  simp only [ho, hx, Instr.loadAt, Instr.sureAddr, Sem.run_bind, Sem.run_pure, Result.andThen_ok, run_loadVar_row w g t ty cs fr d (hg w hw) hu hd hi]
  exact ⟨rfl, rfl⟩
/-- The first k of forty. -/
def upL (k : Nat) : List Bool := (List.range 40).map fun i => decide (i < k)
theorem upL_len (k : Nat) : (upL k).length = 40 := by simp [upL]
theorem upL_at {k i : Nat} (h : i < 40) : atb (upL k) i = decide (i < k) := by
  unfold atb upL
  rw [List.getD_eq_getElem?_getD, List.getElem?_map, List.getElem?_range h]
  rfl
theorem upL_zero : upL 0 = List.replicate 40 false := list_ext40 (upL_len 0) (by simp) fun i hi => by rw [upL_at hi, atb_rep]; simp
theorem upL_succ {k : Nat} (h : k < 40) : (upL k).set k true = upL (k + 1) := list_ext40 (by simp [upL_len]) (upL_len _) fun i hi => by
  rw [atb_set (by rw [upL_len]; exact h), upL_at hi, upL_at hi]
  by_cases e : i = k
  · subst e; simp
  · rw [if_neg e]
    have : (i < k) ↔ (i < k + 1) := by omega
    simp only [this]
/-- Where one begins at a node, all that one comes to are nodes. -/
theorem Way.node {n : Int} {es : List Ed} {bl : List Int} {a v : Int} (hr : RightL n es) (ha : nodeB n a = true) (h : Way es bl a v) : nodeB n v = true := by
  cases h with
  | here => exact ha
  | over he _ _ =>
    have := (hr.edge he).2.1
    exact nodeB_iff.2 this
theorem come_all {n : Int} {N : Nat} {es : List Ed} {a : Int} (hn : n = (N : Int)) (hr : RightL n es) (ha : nodeB n a = true) : comeL es [] a = upL N ↔ ∀ v : Nat, v < N → Way es [] a v := by
  subst hn
  have h40 := hr.2.1
  constructor
  · intro h v hv
    have h1 := comeL_at (es := es) (bl := []) (a := a) (i := v) (by omega)
    rw [h, upL_at (by omega), decide_eq_true hv] at h1
    exact wayB_iff.1 h1.symm
  · intro h
    refine list_ext40 (comeL_len _ _ _) (upL_len _) fun i hi => ?_
    rw [comeL_at hi, upL_at hi, Bool.eq_iff_iff, wayB_iff, decide_eq_true_iff]
    exact ⟨fun hw => by have := (nodeB_iff.1 (hw.node hr ha)).2; omega, h i⟩
/-- Between the rounds of Strong's loops. -/
structure SI (n : Int) (v : Value) (w wr : World) (b : Nat) (c : List Bool) : Prop where
  below : Below w.heap.size w wr
  box : BoxAt n v wr w.heap.size
  arr : ArrAt wr b 49 c
  len : c.length = 40
  ge : w.heap.size < b
theorem SI.grow {n : Int} {v : Value} {w wr wr' : World} {b : Nat} {c : List Bool} (h : SI n v w wr b c) (hb : Below wr.heap.size wr wr') : SI n v w wr' b c :=
  ⟨h.below.trans (hb.mono h.below.size), h.box.below hb, h.arr.below hb h.arr.lt, h.len, h.ge⟩
theorem SI.set {n : Int} {v : Value} {w wr : World} {b : Nat} {c : List Bool} (h : SI n v w wr b c) (i : Nat) : SI n v w (wr.setCell ⟨b, i, none⟩ (.bool true)) b (c.set i true) := by
  have hge := h.ge
  refine ⟨h.below.setCell (by show w.heap.size ≤ b; omega) _, ⟨?_, ?_, ?_⟩, h.arr.set i, by simpa using h.len, h.ge⟩
  · rw [World.cell?_setCell_other _ _ _ _ (fun e => by have := congrArg Addr.block e; simp at this; omega)]; exact h.box.c0
  · rw [World.cell?_setCell_other _ _ _ _ (fun e => by have := congrArg Addr.block e; simp at this; omega)]; exact h.box.c1
  · have := h.box.lt
    simpa using this
theorem strong_no {n : Int} {es : List Ed} {w : World} (v : Value) (hv : EdgesAt w v es) (h : rightB n es = false) :
    Calls Try.prog 22 #[.agg #[.int .i64 n, v]] w (Ret (.bool false) w) := by
  have HB0 : Hid (Below w.heap.size w (w.alloc (.cells #[.int .i64 n, v] 24))) := (Below.refl _ w).alloc (Nat.le_refl _) _
  have HV := Lib.hid (hv.below HB0.out (Nat.le_refl _))
  obtain ⟨Q, HQ⟩ : ∃ Q, Hid (Ret (.bool false) w = Q) := ⟨_, rfl⟩
  rw [HQ.out]
  have C := Lib.hid (fun u w' hu => right_any (n := n) (es := es) (w := w') u hu false h)
  clear hv h
  go_enter Try.func22, Try.ntmps22
  go_wp2_with (go_at_call 20; (with_reducible refine (C.out _ _ HV.out).mono ?_); rintro e w1 ⟨rfl, hb1⟩; have HB1 := Lib.hid (HB0.out.trans (hb1.mono HB0.out.size)); clear hb1)
  rw [← HQ.out]
  exact ⟨rfl, HB1.out⟩
set_option maxRecDepth 100000 in
set_option maxHeartbeats 16000000 in
theorem strong_yes {n : Int} {es : List Ed} {w : World} (v : Value) (hv : EdgesAt w v es) (hr : RightL n es) (t : Bool) (ht : strongB n es = t) :
    Calls Try.prog 22 #[.agg #[.int .i64 n, v]] w (Ret (.bool t) w) := by
  have HB0 : Hid (Below w.heap.size w (w.alloc (.cells #[.int .i64 n, v] 24))) := (Below.refl _ w).alloc (Nat.le_refl _) _
  have HX0 := Lib.hid (BoxAt.new n v w)
  have HV := Lib.hid (hv.below HB0.out (Nat.le_refl _))
  have C := Lib.hid (fun u w' hu => right_any (n := n) (es := es) (w := w') u hu true (rightB_true hr))
  have n40 := hr.2.1
  have n1 := hr.1
  obtain ⟨N, rfl⟩ : ∃ N : Nat, n = (N : Int) := ⟨n.toNat, by omega⟩
  have C4 := Lib.hid (fun w' (hu : EdgesAt w' v es) (a : Nat) (ha : a < N) => comeTo_any (n := (N : Int)) (es := es) (w := w') v hu hr (List.replicate 40 false) [] (Marks.zero _) a (nodeB_iff.2 ⟨by omega, by omega⟩))
  have HA := Lib.hid (fun (a : Nat) (ha : a < N) => come_all (n := (N : Int)) (N := N) (es := es) (a := a) rfl hr (nodeB_iff.2 ⟨by omega, by omega⟩))
  have HT : Hid (t = true ↔ ∀ a : Nat, a < N → ∀ v : Nat, v < N → Way es [] a v) := by
    show _ ↔ _
    rw [← ht, strongB_iff]
    unfold StrongL
    rw [Int.toNat_natCast]
    exact ⟨fun h => h.2, fun h => ⟨hr, h⟩⟩
  clear hv hr ht
  obtain ⟨Q, HQ⟩ : ∃ Q, Hid (Ret (.bool t) w = Q) := ⟨_, rfl⟩
  rw [HQ.out]
  obtain ⟨eo, le, ce, rfl⟩ : ∃ ao lb cap, v = .slice ao lb cap := by
    obtain ⟨ao, cap, h, _⟩ := HV.out
    exact ⟨ao, _, cap, h⟩
  have HZ := zero40
  obtain ⟨Z0, hZ0⟩ : ∃ Z, Hid (boolC (List.replicate 40 false) = Z) := ⟨_, rfl⟩
  rw [hZ0.out] at HZ
  have BU : ∀ w : World, (Instr.build 49 #[]).run Try.prog w = .ok (.agg Z0) w := fun w => by
    rw [← hZ0.out]
    exact run_build w 49 _ _ (by kernel_rfl)
  have HSZ : Hid ((Try.prog.info? 49).map (·.size) = some Z0.size) := by show _ = _; rw [← hZ0.out]; exact size_of (by simp)
  have HON : Hid (Z0.all (·.oneCell') = true) := by show _ = _; rw [← hZ0.out]; exact boolC_one _
  go_enter Try.func22, Try.ntmps22
  go_upto_region 3 with (go_at_call 20; (with_reducible refine (C.out _ _ HV.out).mono ?_); rintro e w1 ⟨rfl, hb1⟩; have HB1 := Lib.hid (HB0.out.trans (hb1.mono HB0.out.size)); have HX1 := Lib.hid (HX0.out.below hb1); have HV1 := Lib.hid (HV.out.below hb1 (Nat.le_refl _)); have c0 := HX1.out.c0; have c1 := HX1.out.c1; clear hb1)
  clear c0 c1
  go_upto_region 4 with (refine wpList_store_row rfl 49 _ _ rfl w1.heap.size Z0 rfl rfl 49 Z0 (heap_alloc_new w1 _) HSZ.out rfl HON.out ?_)
  rw [World.setRow_alloc_new]
  have HS : Hid (SI (N : Int) (.slice eo le ce) w (w1.alloc (.cells Z0 49)) w1.heap.size (upL 0)) := by
    show SI _ _ _ _ _ _
    refine ⟨HB1.out.alloc HB1.out.size _, HX1.out.below ((Below.refl _ _).alloc (Nat.le_refl _) _), ?_, upL_len 0, HX1.out.lt⟩
    rw [upL_zero, ← hZ0.out]
    exact ArrAt.new w1 _ _
  have HVs : Hid (∀ wz, Below w1.heap.size w1 wz → EdgesAt wz (.slice eo le ce) es) := fun wz h => HV1.out.below h (Nat.le_refl _)
  have HRef : Hid (Below w1.heap.size w1 (w1.alloc (.cells Z0 49))) := (Below.refl _ _).alloc (Nat.le_refl _) _
  have hws : w1.heap.size < (w1.alloc (.cells Z0 49)).heap.size := by simp
  clear HX1 HV1 HB1 HZ HSZ HON HB0 HX0 HV C
  generalize w1.alloc (.cells Z0 49) = ws at *
  generalize w1.heap.size = b at *
  have c0 := HS.out.box.c0
  go_wp2
  clear c0
  go_loopw [12] (fun i wr => ∃ k : Nat, k ≤ N ∧ i = .int .i64 k ∧ Hid (SI (N : Int) (.slice eo le ce) w wr b (upL k)) ∧ Hid (Below b w1 wr)) (fun i _ => N - (intOf i).toNat)
  case atStart => exact ⟨0, Nat.zero_le _, rfl, HS, HRef⟩
  case round =>
    obtain ⟨k, hk, rfl, HI, HB⟩ := hrel
    have c0 := HI.out.box.c0
    by_cases hlt : k < N
    · have hk40 : k < 40 := by omega
      have q0 := HI.out.arr.cell (i := k) (by rw [upL_len]; exact hk40)
      have q1 := HI.out.arr.thaw k
      have HI2 := HI.out.set k
      rw [upL_succ hk40] at HI2
      have HI3 := Lib.hid HI2
      have HB3 : Hid (Below b w1 (wr.setCell ⟨b, k, none⟩ (.bool true))) := HB.out.setCell (Nat.le_refl b) _
      clear c0 HI2
      go_wp2_with fail
      go_roundw
      case rel => exact ⟨k + 1, by omega, by go_num, HI3, HB3⟩
      case measure => simp [intOf]; omega
    · obtain rfl : k = N := by omega
      have HBE := Lib.hid (HVs.out _ HB.out)
      have NQ : Hid (∀ (a : Nat) (r : Bool), decide (comeL es [] a = upL k) = r → ∀ w : World, (Op.equalIn 10000 49 (.agg (boolC (comeL es [] a))) (.agg (boolC (upL k)))).run Try.prog w = .ok r w) := fun a r h w => eqN_run _ _ (comeL_len _ _ _) (upL_len _) w r h
      have HSZu : Hid ((Try.prog.info? 49).map (·.size) = some (boolC (upL k)).size) := size_of (upL_len k)
      go_wp2_with fail
      clear c0
      have HA0 := Lib.hid HI.out.arr.lt
      go_loopw [20] (fun i wq => ∃ m : Nat, m ≤ k ∧ i = .int .i64 m ∧ Hid (Below wr.heap.size wr wq) ∧ Hid (∀ a, a < m → comeL es [] (a : Int) = upL k)) (fun i _ => k - (intOf i).toNat)
      case atStart => exact ⟨0, Nat.zero_le _, rfl, Below.refl _ _, fun a h => absurd h (by omega)⟩
      case round =>
        obtain ⟨m, hm, rfl, HQ2, HAll⟩ := hrel
        have HIq := Lib.hid (HI.out.grow HQ2.out)
        have HEq := Lib.hid (HBE.out.below HQ2.out (Nat.le_refl _))
        have c0 := HIq.out.box.c0
        have c1 := HIq.out.box.c1
        by_cases hlt2 : m < k
        · obtain ⟨r, hr⟩ : ∃ r, decide (comeL es [] (m : Int) = upL k) = r := ⟨_, rfl⟩
          have NQm := Lib.hid (NQ.out m r hr)
          have C5 := Lib.hid (fun (dd : Nat) (os : Array Obj) => Calls.regrown_of (w := wr) (d := dd) (os := os) (C4.out _ (HEq.out.below (below_regrown wr dd os) (Nat.le_refl _)) m hlt2))
          have HU : Hid (∀ w', (∃ p : Regrown, w' = Sort.grow (redrawn wr p.d) p.os) → w'.heap[b]? = some (.cells (boolC (upL k)) 49 (0, 0))) := fun w' ⟨p, hp⟩ => by
            rw [hp]
            exact HIq.out.arr.below (below_regrown wr p.d p.os) HIq.out.arr.lt
          have HR := Lib.hid hr
          clear hr
          generalize boolC (comeL es [] (m : Int)) = CM at *
          generalize boolC (upL k) = UK at *
          go_upto_region 12 with fail
          have x0 := cell_regrown c0
          have x1 := cell_regrown c1
          clear c0 c1
          have nq := NQm.out
          cases r with
          | true =>
            have HAn : Hid (∀ a, a < m + 1 → comeL es [] (a : Int) = upL k) := fun a ha => by
              by_cases e : a = m
              · subst e; simpa using HR.out
              · exact HAll.out a (by omega)
            refine wp_region_quiet_below mixed (by kernel_rfl) ?_
            quiet_step (fail)
            quiet_step (fail)
            quiet_step (fail)
            quiet_step (exact C5.out _ _)
            refine wpQuiet_load_row rfl 49 _ rfl b rfl 49 UK (0, 0) _ HU.out Try.underlying49 rfl HSZu.out ?_
            quiet_step (fail)
            refine wpQuiet_nil ?_
            intro _ hw'
            obtain ⟨⟨dq, osq⟩, hw''⟩ := hw'
            subst hw''
            have HBN := Lib.hid (HQ2.out.trans ((below_regrown wr dq osq).mono HQ2.out.size))
            clear nq x0 x1
            go_wp2_with fail
            go_roundw
            case rel => exact ⟨m + 1, by omega, by go_num, HBN, HAn⟩
            case measure => simp [intOf]; omega
          | false =>
            have HF : Hid (t = false) := by
              show _ = _
              rw [← Bool.not_eq_true]
              intro h
              have h1 := HT.out.1 h m hlt2
              have h2 := (HA.out m hlt2).2 h1
              have h3 := HR.out
              simp [h2] at h3
            refine wp_region_quiet_below mixed (by kernel_rfl) ?_
            quiet_step (fail)
            quiet_step (fail)
            quiet_step (fail)
            quiet_step (exact C5.out _ _)
            refine wpQuiet_load_row rfl 49 _ rfl b rfl 49 UK (0, 0) _ HU.out Try.underlying49 rfl HSZu.out ?_
            quiet_step (fail)
            refine wpQuiet_nil ?_
            intro _ hw'
            obtain ⟨⟨dq, osq⟩, hw''⟩ := hw'
            subst hw''
            have HBN := Lib.hid (HIq.out.below.trans ((below_regrown wr dq osq).mono HIq.out.below.size))
            clear nq x0 x1
            go_wp2_with fail
            rw [← HQ.out]
            exact ⟨ret_bool HF.out.symm, HBN.out⟩
        · have HF : Hid (t = true) := HT.out.2 fun a ha => (HA.out a ha).1 (HAll.out a (by omega))
          have HBN := Lib.hid HIq.out.below
          clear c0 c1
          go_wp2_with fail
          rw [← HQ.out]
          exact ⟨ret_bool HF.out.symm, HBN.out⟩
/-- Strong. -/
theorem strong_any {n : Int} {es : List Ed} {w : World} (v : Value) (hv : EdgesAt w v es) (t : Bool) (ht : strongB n es = t) :
    Calls Try.prog 22 #[.agg #[.int .i64 n, v]] w (Ret (.bool t) w) := by
  by_cases hr : RightL n es
  · exact strong_yes v hv hr t ht
  · have : t = false := by
      rw [← ht]
      exact strongB_false fun h => hr h.1
    subst this
    exact strong_no v hv (rightB_false hr)
end Go.Proofs.Ytcbfjkigmlmohaa.Ly
