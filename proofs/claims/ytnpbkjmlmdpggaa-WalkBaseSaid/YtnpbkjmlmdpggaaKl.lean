import Derived.Test.YtnpbkjmlmdpggaaKi
/- Rows of stops; areNums, isFirst, isStep, isLine: o/XOj, XOk, XOl. -/
set_option linter.unusedVariables false
set_option linter.unusedSimpArgs false
namespace Go.Proofs.Ytnpbkjmlmdpggaa.Od
open Go.RowKit Js Lex


theorem stop_info : (Try.prog.info? 52).map (fun i => (i.zero, i.size, i.bytes)) = some (some (.agg #[.int .i64 0, .int .i64 0, .bool false]), 3, 24) := by kernel_rfl
theorem way_info : (Try.prog.info? 60).map (fun i => (i.zero, i.size, i.bytes)) = some (some (.agg #[.int .i64 0, .int .i64 0, .bool false]), 3, 24) := by kernel_rfl
/-- The cells of stops. -/
def cellsS (l : List St) : List Value := l.flatMap fun x => [.int .i64 x.id, .int .i64 x.seq, .bool x.rel]
theorem cellsS_app (l : List St) (x : St) : cellsS (l ++ [x]) = cellsS l ++ [.int .i64 x.id, .int .i64 x.seq, .bool x.rel] := by unfold cellsS; simp
theorem cellsS_len (l : List St) : (cellsS l).length = l.length * 3 := by
  unfold cellsS
  induction l with
  | nil => rfl
  | cons x r ih => rw [List.flatMap_cons, List.length_append, ih, List.length_cons]; simp; omega
theorem cellsS_get : ∀ (l : List St) (j i : Nat), j < l.length → i < 3 → (cellsS l)[j * 3 + i]? = (aggC (stV (l.getD j st0)))[i]?
  | [], j, i, hj, _ => by simp at hj
  | x :: r, j, i, hj, hi => by
    have e : cellsS (x :: r) = [.int .i64 x.id, .int .i64 x.seq, .bool x.rel] ++ cellsS r := rfl
    rw [e]
    cases j with
    | zero => rw [List.getElem?_append_left (by simp; omega)]; simp [aggC, stV]
    | succ j =>
      have h3 : ([Value.int .i64 x.id, .int .i64 x.seq, .bool x.rel] : List Value).length = 3 := rfl
      rw [List.getElem?_append_right (by rw [h3]; omega), h3, show (j + 1) * 3 + i - 3 = j * 3 + i by omega, cellsS_get r j i (by simpa using hj) hi]
      simp
def goodS (x : St) : Prop := i64B x.id ∧ i64B x.seq
/-- A row of one's own reads as a list of stops. -/
theorem sts_own {w : World} {base T : Nat} {v : Value} {l : List St} (h : w.ownsRow base T 3 v l.length (cellsS l)) (hl : l.length ≤ 5864062014805) (hg : ∀ x ∈ l, goodS x) : StsAt (fun b => base ≤ b) w v l := by
  rcases h.2 with ⟨e, h0⟩ | ⟨g, cap, cur, hv, hbg, hc, hnc, hcm, hcs, htake⟩
  · subst e
    have : l = [] := List.length_eq_zero_iff.1 h0
    subst this
    exact sts_nil
  · subst hv
    refine ⟨_, _, rfl, hnc, hl, hg, fun _ => ⟨g, 0, rfl, hbg, Own.block_lt hc, fun i hi q c hq => ?_⟩⟩
    have hq3 : q < 3 := by simpa [aggC, stV] using (List.getElem?_eq_some_iff.1 hq).1
    rw [Nat.zero_add, h.cellAt (i * 3 + q) (by omega), cellsS_get l i q hi hq3, hq]
/-- A stop is appended to a row of one's own. -/
theorem append_st {P : Program} {W : World} {ops : Array Oper} {rest : List Oper} {o : Oper} {a : Act} {Q : Exit → Act → World → Prop} (hgd : o.guard = none) (s x : Operand) {Ts T : TypeId} {z : Value}
    (hinfo : (P.info? T).map (fun i => (i.zero, i.size, i.bytes)) = some (some z, 3, 24)) (hz : z.cells.size = 3) (hu : P.underlying Ts = some (.slice T))
    (ho : o.op = .call { callee := .builtin .append, args := #[s, x], argTypes := #[Ts, Ts] }) (base : Nat) (v : Value) (l : List St) (hs : a.eval s = v) (hown : W.ownsRow base T 3 v l.length (cellsS l))
    (B c : Nat) (hx : a.eval x = .slice (some ⟨B, 0, none⟩) 1 c) (y : St) (hB : W.heap[B]? = some (.cells #[.int .i64 y.id, .int .i64 y.seq, .bool y.rel] T (0, 0)))
    (hlen : l.length + 1 ≤ 1599289640355) (hbase : base ≤ W.heap.size)
    (h : ∀ a' c' w', w'.ownsRow base T 3 (.slice a' (l.length + 1) c') (l.length + 1) (cellsS (l ++ [y])) → W.grownBy w' v.ownBlock → wpList P ops Q rest (a.put o.dst (.slice a' (l.length + 1) c')) w') : wpList P ops Q (o :: rest) a W := by
  obtain ⟨i0, hi0, hz0, hz1, hz2⟩ := info_parts hinfo
  refine wpList_append_own W hgd s x Ts ho base T i0 _ 3 24 hu hi0 hz0 hz1 hz2 hz (by decide) v l.length (cellsS l) hs hown ⟨B, 0, none⟩ 1 c [.int .i64 y.id, .int .i64 y.seq, .bool y.rel] hx (by simp) ?_ (by simp [Value.oneCell']) (by unfold maxLen; omega) (by omega) hbase ?_
  · intro j u hu
    rw [show (⟨B, 0, none⟩ : Addr).add j = ⟨B, j, none⟩ by simp only [Addr.add]; split <;> simp_all, cell_of_row W B j _ _ _ hB]
    simpa using hu
  · intro v' w' h2 h3 _
    obtain ⟨a', c', rfl⟩ := own_slice h2
    rw [← cellsS_app] at h2
    exact h a' c' w' h2 h3
theorem one_stop (x : St) : ∀ u ∈ [Value.int .i64 x.id, .int .i64 x.seq, .bool x.rel], u.oneCell' = true := by simp [Value.oneCell']
theorem three_of {w : World} {b : Nat} {T : TypeId} {c0 c1 c2 : Value} (h : w.heap[b]? = some (.cells #[c0, c1, c2] T (0, 0))) :
    (w.cell? ⟨b, 0, none⟩ = some c0 ∧ w.cell? ⟨b, 1, none⟩ = some c1 ∧ w.cell? ⟨b, 2, none⟩ = some c2) ∧ w.frozen? ⟨b, 0, none⟩ = false ∧ w.frozen? ⟨b, 1, none⟩ = false ∧ w.frozen? ⟨b, 2, none⟩ = false := by
  have k : ∀ i, w.cell? ⟨b, i, none⟩ = (#[c0, c1, c2] : Array Value)[i]? := fun i => cell_of_row _ _ _ _ _ _ h
  exact ⟨⟨k 0, k 1, k 2⟩, free_of h 0, free_of h 1, free_of h 2⟩
theorem StsAt.form {S : Nat → Prop} {w : World} {v : Value} {l : List St} (h : StsAt S w v l) : ∃ a c, v = .slice a l.length c := by
  obtain ⟨ao, cap, h1, _⟩ := h
  exact ⟨ao, cap, h1⟩
/-- The cells of a stop of a list. -/
theorem StsAt.at_ {S : Nat → Prop} {w : World} {a : Option Addr} {n c : Nat} {l : List St} (h : StsAt S w (.slice a n c) l) {k : Nat} (hk : k < l.length) :
    ∃ b off, a = some ⟨b, off, none⟩ ∧ S b ∧ b < w.heap.size ∧ goodS (l.getD k st0) ∧ w.cell? ⟨b, off + k * 3, none⟩ = some (.int .i64 (l.getD k st0).id) ∧ w.cell? ⟨b, off + k * 3 + 1, none⟩ = some (.int .i64 (l.getD k st0).seq) ∧ w.cell? ⟨b, off + k * 3 + 2, none⟩ = some (.bool (l.getD k st0).rel) := by
  obtain ⟨ao, cap, h1, h2, h3, h4, h5⟩ := h
  cases h1
  obtain ⟨b, off, e1, e2, e3, e4⟩ := h5 (by omega)
  obtain ⟨c0, c1, c2⟩ := three_cells (e4 k hk)
  exact ⟨b, off, e1, e2, e3, h4 _ (by rw [List.getD_eq_getElem?_getD, List.getElem?_eq_getElem hk]; exact List.getElem_mem _), c0, c1, c2⟩
theorem StsAt.len {S : Nat → Prop} {w : World} {a : Option Addr} {n c : Nat} {l : List St} (h : StsAt S w (.slice a n c) l) : n = l.length ∧ l.length ≤ c ∧ l.length ≤ 5864062014805 := by
  obtain ⟨ao, cap, h1, h2, h3, h4, h5⟩ := h
  cases h1
  exact ⟨rfl, h2, h3⟩

set_option maxHeartbeats 1000000 in
set_option maxRecDepth 100000 in
theorem areNums_any (b o n c : Nat) (l : List Int) (w : World) (hl : l.length = n) (hn : n ≤ 64) (hc : ∀ q, q < n → w.cell? ⟨b, o + q, none⟩ = some (.int .i64 (l.getD q 0))) :
    Calls Try.prog 46 #[.slice (some ⟨b, o, none⟩) n c] w (fun e w' => e = .returned (.bool (l.all numB)) ∧ w = w') := by
  have HC := Lib.hid hc
  have HL := Lib.hid hl
  obtain ⟨R, HR⟩ : ∃ R, Hid (l.all numB = R) := ⟨_, rfl⟩
  rw [HR.out]
  clear hc hl
  go_enter Try.func46, Try.ntmps46
  go_wp2_with fail
  go_loopw [7] (fun i wr => ∃ q : Nat, q ≤ n ∧ i = .int .i64 q ∧ w = wr ∧ Hid (R = (l.drop q).all numB)) (fun i _ => n - (intOf i).toNat)
  case atStart => exact ⟨0, Nat.zero_le _, rfl, rfl, HR.out.symm⟩
  case round =>
    obtain ⟨q, hq, rfl, rfl, HK⟩ := hrel
    by_cases hlt : q < n
    · have x1 := HC.out q hlt
      have HS : Hid ((l.drop q).all numB = (numB (l.getD q 0) && (l.drop (q + 1)).all numB)) := by show _ = _; rw [drop_getD0 0 (by rw [HL.out]; exact hlt), List.all_cons]
      have i1 : (q : Int) < (n : Int) := by omega
      clear HC
      generalize l.getD q 0 = X at *
      by_cases h0 : X < 0
      · have HB : Hid (numB X = false) := by show _ = _; unfold numB; simp; omega
        go_wp2_with fail
        go_ret
        exact ⟨Quo.ret_bool (by rw [HK.out, HS.out, HB.out]; rfl), rfl⟩
      · by_cases h1 : 1000000000 < X
        · have HB : Hid (numB X = false) := by show _ = _; unfold numB; simp; omega
          go_wp2_with fail
          go_ret
          exact ⟨Quo.ret_bool (by rw [HK.out, HS.out, HB.out]; rfl), rfl⟩
        · have HB : Hid (numB X = true) := by show _ = _; unfold numB; simp; omega
          go_wp2_with fail
          go_roundw
          case rel => exact ⟨q + 1, by omega, by go_num, trivial, by show _ = _; rw [HK.out, HS.out, HB.out]; simp⟩
          case measure => simp [intOf]; omega
    · have HE : Hid (R = true) := by show _ = _; rw [HK.out, List.drop_of_length_le (by rw [HL.out]; omega)]; rfl
      go_wp2_with fail
      go_ret
      exact ⟨Quo.ret_bool (by rw [HE.out]), rfl⟩

theorem lit_cells {w : World} {b : Nat} {T : TypeId} {fr : Nat × Nat} (l : List Int) (h : w.heap[b]? = some (.cells (l.map fun z => Value.int .i64 z).toArray T fr)) : ∀ q, q < l.length → w.cell? ⟨b, 0 + q, none⟩ = some (.int .i64 (l.getD q 0)) := fun q hq => by
  rw [cell_of_row _ _ _ _ _ _ h]
  simp [List.getD, hq]
theorem nums2 (x y : Int) (b c : Nat) (w : World) (h : w.heap[b]? = some (.cells #[.int .i64 x, .int .i64 y] 3 (0, 0))) : Calls Try.prog 46 #[.slice (some ⟨b, 0, none⟩) 2 c] w (fun e w' => e = .returned (.bool (numB x && numB y)) ∧ w = w') := by
  have := areNums_any b 0 2 c [x, y] w rfl (by omega) (lit_cells [x, y] h)
  rwa [show [x, y].all numB = (numB x && numB y) by simp] at this
theorem nums3 (x y z : Int) (b c : Nat) (w : World) (h : w.heap[b]? = some (.cells #[.int .i64 x, .int .i64 y, .int .i64 z] 3 (0, 0))) : Calls Try.prog 46 #[.slice (some ⟨b, 0, none⟩) 3 c] w (fun e w' => e = .returned (.bool (numB x && (numB y && numB z))) ∧ w = w') := by
  have := areNums_any b 0 3 c [x, y, z] w rfl (by omega) (lit_cells [x, y, z] h)
  rwa [show [x, y, z].all numB = (numB x && (numB y && numB z)) by simp] at this
theorem nums4 (x y z u : Int) (b c : Nat) (w : World) (h : w.heap[b]? = some (.cells #[.int .i64 x, .int .i64 y, .int .i64 z, .int .i64 u] 3 (0, 0))) : Calls Try.prog 46 #[.slice (some ⟨b, 0, none⟩) 4 c] w (fun e w' => e = .returned (.bool (numB x && (numB y && (numB z && numB u)))) ∧ w = w') := by
  have := areNums_any b 0 4 c [x, y, z, u] w rfl (by omega) (lit_cells [x, y, z, u] h)
  rwa [show [x, y, z, u].all numB = (numB x && (numB y && (numB z && numB u))) by simp] at this
theorem four_last (w : World) (a b c d : Obj) : ((((w.alloc a).alloc b).alloc c).alloc d).heap[w.heap.size + 1 + 1 + 1]? = some d := by
  have := heap_alloc_new (((w.alloc a).alloc b).alloc c) d
  simpa using this
theorem belowFour (w : World) (a b c d : Obj) : Below w.heap.size w ((((w.alloc a).alloc b).alloc c).alloc d) := (belowThree w a b c).alloc (by simp; omega) _
theorem numB_rem {q : Int} (h : numB q = true) : Int.tmod q 2 = q % 2 := Int.tmod_eq_emod_of_nonneg (numB_iff h).1

set_option maxHeartbeats 2000000 in
set_option maxRecDepth 100000 in
theorem isFirst_any (x : St) (w : World) : Calls Try.prog 55 #[stV x] w (Ret (.bool (firstB x)) w) := by
  obtain ⟨i, q, r⟩ := x
  have AN := Lib.hid (fun (w' : World) (b : Nat) (h : w'.heap[b]? = some (.cells #[.int .i64 i, .int .i64 q] 3 (0, 0))) => nums2 i q b 2 w' h)
  unfold stV firstB
  simp only
  rw [← Bool.and_assoc]
  by_cases hN : (numB i && numB q) = true
  · rw [hN] at AN ⊢
    have hq := numB_iff (show numB q = true by simp at hN; exact hN.2)
    obtain ⟨hq0, hq1⟩ := hq
    by_cases he : q % 2 = 0
    · rw [decide_eq_true he]
      go_enter Try.func55, Try.ntmps55
      go_wp2_with (go_at_call 46; (with_reducible refine (AN.out _ _ (two_new _ _ _)).mono ?_); rintro e1 w1 ⟨rfl, rfl⟩)
      go_ret
      exact ⟨rfl, belowTwo _ _ _⟩
    · rw [decide_eq_false he]
      go_enter Try.func55, Try.ntmps55
      go_wp2_with (go_at_call 46; (with_reducible refine (AN.out _ _ (two_new _ _ _)).mono ?_); rintro e1 w1 ⟨rfl, rfl⟩)
      go_ret
      exact ⟨rfl, belowTwo _ _ _⟩
  · rw [Bool.not_eq_true] at hN
    rw [hN] at AN ⊢
    go_enter Try.func55, Try.ntmps55
    go_wp2_with (go_at_call 46; (with_reducible refine (AN.out _ _ (two_new _ _ _)).mono ?_); rintro e1 w1 ⟨rfl, rfl⟩)
    go_ret
    exact ⟨rfl, belowTwo _ _ _⟩

set_option maxHeartbeats 4000000 in
set_option maxRecDepth 100000 in
theorem isStep_any (a e b : St) (w : World) (ha : numB a.seq = true) : Calls Try.prog 56 #[stV a, stV e, stV b] w (Ret (.bool (stepB a e b)) w) := by
  obtain ⟨ai, aq, ar⟩ := a
  obtain ⟨ei, eq, er⟩ := e
  obtain ⟨bi, bq, br⟩ := b
  have AN := Lib.hid (fun (w' : World) (b : Nat) (h : w'.heap[b]? = some (.cells #[.int .i64 ei, .int .i64 eq, .int .i64 bi, .int .i64 bq] 3 (0, 0))) => nums4 ei eq bi bq b 4 w' h)
  unfold stV stepB
  simp only at ha ⊢
  obtain ⟨ha0, ha1⟩ := numB_iff ha
  clear ha
  by_cases hN : (numB ei && (numB eq && (numB bi && numB bq))) = true
  · rw [hN] at AN ⊢
    obtain ⟨he0, he1⟩ := numB_iff (show numB eq = true by simp at hN; exact hN.2.1)
    clear hN
    have w1 : (aq + 1) ≤ 9223372036854775807 := by omega
    have w2 : (eq + 1) ≤ 9223372036854775807 := by omega
    by_cases h1 : eq = aq + 1
    · by_cases h2 : bq = eq + 1
      · subst h2
        subst h1
        rw [show (aq + 1 == aq + 1) = true by simp, show (aq + 1 + 1 == aq + 1 + 1) = true by simp]
        cases br <;> cases er <;> cases ar
        all_goals
          go_enter Try.func56, Try.ntmps56
          go_wp2_with (go_at_call 46; (with_reducible refine (AN.out _ _ (four_last _ _ _ _ _)).mono ?_); rintro e1 w1 ⟨rfl, rfl⟩)
          go_ret
          exact ⟨rfl, belowFour _ _ _ _ _⟩
      · subst h1
        have h3 : (bq == aq + 1 + 1) = false := by simpa using h2
        rw [show (aq + 1 == aq + 1) = true by simp, h3]
        go_enter Try.func56, Try.ntmps56
        go_wp2_with (go_at_call 46; (with_reducible refine (AN.out _ _ (four_last _ _ _ _ _)).mono ?_); rintro e1 w1 ⟨rfl, rfl⟩)
        go_ret
        exact ⟨rfl, belowFour _ _ _ _ _⟩
    · have h3 : (eq == aq + 1) = false := by simpa using h1
      rw [h3]
      go_enter Try.func56, Try.ntmps56
      go_wp2_with (go_at_call 46; (with_reducible refine (AN.out _ _ (four_last _ _ _ _ _)).mono ?_); rintro e1 w1 ⟨rfl, rfl⟩)
      go_ret
      exact ⟨rfl, belowFour _ _ _ _ _⟩
  · rw [Bool.not_eq_true] at hN
    rw [hN] at AN ⊢
    go_enter Try.func56, Try.ntmps56
    go_wp2_with (go_at_call 46; (with_reducible refine (AN.out _ _ (four_last _ _ _ _ _)).mono ?_); rintro e1 w1 ⟨rfl, rfl⟩)
    go_ret
    exact ⟨rfl, belowFour _ _ _ _ _⟩

theorem mixed8 : Try.prog.follows .mixedOrders = true := by kernel_rfl
theorem headD_zero (l : List St) : l.headD st0 = l.getD 0 st0 := by cases l <;> rfl
theorem stepB_next {a e b : St} (h : stepB a e b = true) : numB b.seq = true := by
  unfold stepB at h
  simp only [Bool.and_eq_true] at h
  exact h.1.2.2.2
theorem lineB_short {ns es : List St} (h : ¬ (1 ≤ ns.length ∧ ns.length ≤ 64 ∧ es.length + 1 = ns.length)) : lineB ns es = false := by
  unfold lineB
  rw [Bool.eq_false_iff]
  intro h'
  simp only [Bool.and_eq_true, decide_eq_true_eq] at h'
  exact h ⟨h'.1, h'.2.1, h'.2.2.1⟩
theorem lineB_long {ns es : List St} (h1 : 1 ≤ ns.length) (h2 : ns.length ≤ 64) (h3 : es.length + 1 = ns.length) : lineB ns es = (firstB (ns.getD 0 st0) && stepsB es ns) := by
  unfold lineB
  rw [decide_eq_true h1, decide_eq_true h2, decide_eq_true h3, headD_zero]
  rfl
theorem firstB_seq {a : St} (h : firstB a = true) : numB a.seq = true := by
  unfold firstB at h
  simp only [Bool.and_eq_true] at h
  exact h.2.1

set_option maxHeartbeats 4000000 in
set_option maxRecDepth 100000 in
theorem isLine_any (S : Nat → Prop) (an ae : Option Addr) (cn ce : Nat) (ns es : List St) (w : World) (hN : StsAt S w (.slice an ns.length cn) ns) (hE : StsAt S w (.slice ae es.length ce) es) :
    Calls Try.prog 48 #[.slice an ns.length cn, .slice ae es.length ce] w (Ret (.bool (lineB ns es)) w) := by
  have HN := Lib.hid hN
  have HE := Lib.hid hE
  obtain ⟨-, -, l1⟩ := hN.len
  obtain ⟨-, -, l2⟩ := hE.len
  clear hN hE
  by_cases hl : 1 ≤ ns.length ∧ ns.length ≤ 64 ∧ es.length + 1 = ns.length
  · obtain ⟨h1, h2, h3⟩ := hl
    rw [lineB_long h1 h2 h3]
    obtain ⟨b, off, rfl, -, hb, hg, x0, x1, x2⟩ := HN.out.at_ (k := 0) (by omega)
    have F := Lib.hid (fun (w' : World) => isFirst_any (ns.getD 0 st0) w')
    have HFS := Lib.hid (@firstB_seq (ns.getD 0 st0))
    unfold stV at F
    obtain ⟨m, HM⟩ : ∃ m, Hid (es.length = m) := ⟨_, rfl⟩
    obtain ⟨n, HM2⟩ : ∃ n, Hid (ns.length = n) := ⟨_, rfl⟩
    have h3' : m + 1 = n := by rw [← HM.out, ← HM2.out]; exact h3
    rw [HM.out] at HE l2 ⊢
    rw [HM2.out] at HN l1 h1 h2 ⊢
    clear h3
    have h3 := Lib.hid h3'
    have j1 : ¬ (n : Int) < 1 := by omega
    have j2 : ¬ (64 : Int) < (n : Int) := by omega
    have j3 : ((m : Int) != (n : Int) - 1) = false := by simp; omega
    have j4 : (0 : Int) < (n : Int) := by omega
    clear h3'
    have hs0 : ns.getD 0 st0 = ns.getD 0 st0 := rfl
    simp only [Nat.zero_mul, Nat.add_zero] at x0 x1 x2
    obtain ⟨s0, HS0⟩ : ∃ s, Hid (ns.getD 0 st0 = s) := ⟨_, rfl⟩
    rw [HS0.out] at F HFS x0 x1 x2 ⊢
    clear hs0 hg
    obtain ⟨f, hf⟩ : ∃ f, firstB s0 = f := ⟨_, rfl⟩
    rw [hf] at F ⊢
    cases f with
    | false =>
      go_enter Try.func48, Try.ntmps48
      go_wp2_with (go_at_call 55; (with_reducible refine (F.out _).mono ?_); rintro e1 w1 ⟨rfl, hb1⟩)
      go_ret
      exact ⟨rfl, hb1⟩
    | true =>
      have HQ : Hid (numB (ns.getD 0 st0).seq = true) := by show _ = _; rw [HS0.out]; exact HFS.out hf
      clear HFS hf
      obtain ⟨R, HR⟩ : ∃ R, Hid (stepsB es ns = R) := ⟨_, rfl⟩
      rw [HR.out]
      go_enter Try.func48, Try.ntmps48
      go_wp2_with (go_at_call 55; (with_reducible refine (F.out _).mono ?_); rintro e1 w1 ⟨rfl, hb1⟩)
      have HB1 := Lib.hid hb1
      clear F x0 x1 x2 hb1
      go_loopw [30] (fun i wr => ∃ k : Nat, k ≤ m ∧ i = .int .i64 k ∧ Below w.heap.size w wr ∧ Hid (R = stepsB (es.drop k) (ns.drop k)) ∧ Hid (numB (ns.getD k st0).seq = true)) (fun i _ => m - (intOf i).toNat)
      case atStart => exact ⟨0, Nat.zero_le _, rfl, HB1.out, HR.out.symm, HQ⟩
      case round =>
        clear HB1 HR HQ HS0
        obtain ⟨k, hk, rfl, hB, HK, HQ⟩ := hrel
        by_cases hlt : k < m
        · obtain ⟨be, oe, rfl, -, hbe, hge, y0, y1, y2⟩ := HE.out.at_ (k := k) (by rw [HM.out]; exact hlt)
          obtain ⟨bn, on, hbo, -, hbn, hgn, z0, z1, z2⟩ := HN.out.at_ (k := k) (by rw [HM2.out]; have := h3.out; omega)
          cases hbo
          obtain ⟨bn2, on2, hbo, -, -, hgn2, u0, u1, u2⟩ := HN.out.at_ (k := k + 1) (by rw [HM2.out]; have := h3.out; omega)
          cases hbo
          rw [← hB.cell (p := ⟨be, _, none⟩) hbe] at y0 y1 y2
          rw [← hB.cell (p := ⟨b, _, none⟩) hb] at z0 z1 z2 u0 u1 u2
          have HS := Lib.hid (stepsB_step (es := es) (ns := ns) (k := k) (by rw [HM.out]; exact hlt) (by rw [HM2.out]; have := h3.out; omega))
          have ST := Lib.hid (fun (w' : World) => isStep_any (ns.getD k st0) (es.getD k st0) (ns.getD (k + 1) st0) w' HQ.out)
          unfold stV at ST
          have HNX := Lib.hid (@stepB_next (ns.getD k st0) (es.getD k st0) (ns.getD (k + 1) st0))
          have q1 : (k : Int) < (m : Int) := by omega
          have q2 : (k : Int) < (n : Int) := by have := h3.out; omega
          have q5 : (0 : Int) ≤ (k : Int) + 1 := by omega
          have q6 : ¬ (k : Int) + 1 < 0 := by omega
          have q8 : ((k : Int) + 1).toNat = k + 1 := by omega
          have q9 : k + 1 < n := by have := h3.out; omega
          have q4 : IntKind.i64.wrap ((k : Int) + 1) = (k : Int) + 1 := by rw [IntKind.wrap_i64]; omega
          have q3 : (k : Int) + 1 < (n : Int) := by have := h3.out; omega
          have hsz := hB.size
          have hbe' : be < wr.heap.size := by omega
          have hb' : b < wr.heap.size := by omega
          clear HE HN hge hgn hgn2
          generalize ns.getD k st0 = sa at *
          generalize es.getD k st0 = se at *
          obtain ⟨sb, HSB⟩ : ∃ s, Hid (ns.getD (k + 1) st0 = s) := ⟨_, rfl⟩
          rw [HSB.out] at u0 u1 u2 HS ST HNX
          obtain ⟨r, hr⟩ : ∃ r, stepB sa se sb = r := ⟨_, rfl⟩
          rw [hr] at ST
          obtain ⟨wa, hwa⟩ : ∃ wa, wr.alloc (.cells #[.int .i64 se.id, .int .i64 se.seq, .bool se.rel] 60) = wa := ⟨_, rfl⟩
          have hba : Below wr.heap.size wr wa := by rw [← hwa]; exact belowOne _ _
          have hxn : wa.heap[wr.heap.size]? = some (.cells #[.int .i64 se.id, .int .i64 se.seq, .bool se.rel] 60 (0, 0)) := by rw [← hwa]; exact heap_alloc_new _ _
          obtain ⟨⟨v0, v1, v2⟩, -⟩ := three_of hxn
          have HBA := Lib.hid (hB.trans (hba.mono hsz))
          have C1 := Lib.hid (fun (dd : Nat) (os : Array Obj) => Calls.regrown_of (w := wa) (d := dd) (os := os) (ST.out _))
          have v0' := cell_regrown v0
          have v1' := cell_regrown v1
          have v2' := cell_regrown v2
          have z0' := cell_regrown ((hba.cell (p := ⟨b, _, none⟩) hb').trans z0)
          have z1' := cell_regrown ((hba.cell (p := ⟨b, _, none⟩) hb').trans z1)
          have z2' := cell_regrown ((hba.cell (p := ⟨b, _, none⟩) hb').trans z2)
          have u0' := cell_regrown ((hba.cell (p := ⟨b, _, none⟩) hb').trans u0)
          have u1' := cell_regrown ((hba.cell (p := ⟨b, _, none⟩) hb').trans u1)
          have u2' := cell_regrown ((hba.cell (p := ⟨b, _, none⟩) hb').trans u2)
          clear hba hxn v0 v1 v2
          go_upto_region 8 with fail
          clear hwa y0 y1 y2 z0 z1 z2 u0 u1 u2
          refine wp_region_quiet_below mixed8 (by kernel_rfl) ?_
          repeat (quiet_step (with_reducible exact C1.out _ _))
          refine wpQuiet_nil ?_
          intro _ hw'
          obtain ⟨⟨dq, osq⟩, hw''⟩ := hw'
          subst hw''
          have HBN := Lib.hid (HBA.out.trans ((below_regrown wa dq osq).mono HBA.out.size))
          cases r with
          | true =>
            go_wp2_with fail
            go_roundw
            case rel => exact ⟨k + 1, by omega, by go_num, HBN.out, by show _ = _; rw [HK.out, HS.out, hr]; simp, by show _ = _; rw [HSB.out]; exact HNX.out hr⟩
            case measure => simp [intOf]; omega
          | false =>
            go_wp2_with fail
            go_ret
            exact ⟨Quo.ret_bool (by rw [HK.out, HS.out, hr]; rfl), HBN.out⟩
        · have HX : Hid (R = true) := by show _ = _; rw [HK.out, List.drop_of_length_le (by rw [HM.out]; omega), stepsB_nil]
          go_wp2_with fail
          go_ret
          exact ⟨Quo.ret_bool (by rw [HX.out]; rfl), hB⟩
  · rw [lineB_short hl]
    clear HN HE
    generalize ns.length = n at *
    generalize es.length = m at *
    by_cases h1 : n < 1
    · obtain rfl : n = 0 := by omega
      go_enter Try.func48, Try.ntmps48
      go_wp2_with fail
      go_ret
      exact ⟨rfl, Below.refl _ _⟩
    · have i1 : ¬ (n : Int) < 1 := by omega
      by_cases h2 : 64 < n
      · have i2 : (64 : Int) < (n : Int) := by omega
        go_enter Try.func48, Try.ntmps48
        go_wp2_with fail
        go_ret
        exact ⟨rfl, Below.refl _ _⟩
      · have i2 : ¬ (64 : Int) < (n : Int) := by omega
        have i3 : ((m : Int) != (n : Int) - 1) = true := by simp; omega
        go_enter Try.func48, Try.ntmps48
        go_wp2_with fail
        go_ret
        exact ⟨rfl, Below.refl _ _⟩
end Go.Proofs.Ytnpbkjmlmdpggaa.Od
