import Derived.Test.YtnpbkjmlmdpggaaWf
import Derived.Test.YtnpbkjmlmdpggaaWd
/- Base. -/
set_option linter.unusedVariables false
set_option linter.unusedSimpArgs false
namespace Go.Proofs.Ytnpbkjmlmdpggaa.Wk
open Go.RowKit Go.Shelf Ly Od
attribute [local go_sem] Oper.semAt_some

theorem edges_rel : ∀ {es l : List St}, edgesB es l = true → ∀ i, i < es.length → (es.getD i st0).rel = (l.getD (i + 1) st0).rel
  | [], _, _, i, hi => by simp at hi
  | e :: es, a :: b :: r, h, i, hi => by
    rw [edgesB] at h
    simp only [Bool.and_eq_true] at h
    cases i with
    | zero => simpa using h.2.2.2.1
    | succ i =>
      have := edges_rel h.2.2.2.2 i (by simpa using hi)
      simpa using this
  | _ :: _, [], h, _, _ => by simp [edgesB] at h
  | _ :: _, [_], h, _, _ => by simp [edgesB] at h
theorem relK_true : ∀ {l : List St} {j : Nat}, j < relK l → (l.getD j st0).rel = true
  | [], j, h => by simp [relK] at h
  | x :: r, j, h => by
    unfold relK at h
    rw [List.takeWhile_cons] at h
    cases hx : x.rel with
    | false => rw [hx] at h; simp at h
    | true =>
      rw [hx, if_pos rfl, List.length_cons] at h
      cases j with
      | zero => simpa using hx
      | succ j =>
        have := relK_true (l := r) (j := j) (by unfold relK; omega)
        simpa using this
theorem relK_false : ∀ {l : List St}, relK l < l.length → (l.getD (relK l) st0).rel = false
  | [], h => by simp at h
  | x :: r, h => by
    unfold relK at h ⊢
    rw [List.takeWhile_cons] at h ⊢
    cases hx : x.rel with
    | false => simpa using hx
    | true =>
      rw [hx, if_pos rfl, List.length_cons] at h
      rw [if_pos rfl, List.length_cons]
      have := relK_false (l := r) (by unfold relK; simpa using h)
      unfold relK at this
      simpa using this
theorem takeWhile_take {α : Type} (p : α → Bool) : ∀ (l : List α) (n : Nat), n ≤ l.length → (∀ i, i < n → ∀ x, l[i]? = some x → p x = true) → (∀ x, l[n]? = some x → p x = false) → l.takeWhile p = l.take n
  | [], n, h, _, _ => by simp
  | x :: r, 0, _, _, h2 => by
    have := h2 x rfl
    rw [List.takeWhile_cons, this]; simp
  | x :: r, n + 1, h, h1, h2 => by
    have h0 := h1 0 (by omega) x rfl
    rw [List.takeWhile_cons, h0, if_pos rfl, List.take_succ_cons, takeWhile_take p r n (by simpa using h) (fun i hi y hy => h1 (i + 1) (by omega) y (by simpa using hy)) (fun y hy => h2 y (by simpa using hy))]
theorem els_get {ns es : List St} {k : Nat} (h : k < 2 * ns.length - 1) : (elsL ns es)[k]? = some (elAt ns es k) := by simp [elsL, h]
theorem els_base : ∀ (ns es : List St) (r : Nat), (List.range (2 * r - 1)).map (fun k => (elAt ns es k).1) = baseN ns es r
  | ns, es, 0 => rfl
  | ns, es, 1 => by
    show [(elAt ns es (2 * 0)).1] = _
    rw [elAt_even]; rfl
  | ns, es, k + 2 => by
    rw [baseN, ← els_base ns es (k + 1), show 2 * (k + 2) - 1 = (2 * (k + 1) - 1) + 1 + 1 by omega, List.range_succ, List.range_succ, List.map_append, List.map_append, List.append_assoc]
    congr 1
    show [(elAt ns es (2 * (k + 1) - 1)).1, (elAt ns es (2 * (k + 1) - 1 + 1)).1] = _
    rw [show 2 * (k + 1) - 1 + 1 = 2 * (k + 1) by omega, show 2 * (k + 1) - 1 = 2 * k + 1 by omega, elAt_even, elAt_odd]
    simp only [Int.add_comm]
/-- What the released elements ahead of a right order are. -/
theorem els_while {nm : List UInt8 → Bool} {x : O} (h : rightO nm x = true) : ((elsL x.ns x.es).takeWhile (·.2)).map (·.1) = baseN x.ns x.es (relK x.ns) := by
  have hl := right_lens h
  have hr := relK_le x.ns
  unfold rightO at h
  simp only [Bool.and_eq_true, decide_eq_true_eq] at h
  obtain ⟨_, _, _, _, h1, _, _, _, hh, _, h5⟩ := h
  have h1r : 1 ≤ relK x.ns := by
    obtain ⟨hd, vn, oi, ui, ns, es⟩ := x
    simp only at h1 hh ⊢
    rcases ns with _ | ⟨a, t⟩
    · simp at h1
    · unfold relK
      rw [List.takeWhile_cons, show a.rel = true by simpa using hh]
      simp
  have hER := fun i hi => edges_rel h5 i hi
  rw [takeWhile_take (fun y : Int × Bool => y.2) _ (2 * relK x.ns - 1) (by rw [els_len]; omega)]
  · rw [← els_base]
    unfold elsL
    rw [← List.map_take, List.take_range, List.map_map]
    congr 2
    omega
  · intro i hi y hy
    rw [els_get (by omega)] at hy
    cases hy
    rcases Nat.mod_two_eq_zero_or_one i with e | e
    · obtain ⟨j, rfl⟩ : ∃ j, i = 2 * j := ⟨i / 2, by omega⟩
      rw [elAt_even]
      exact relK_true (by omega)
    · obtain ⟨j, rfl⟩ : ∃ j, i = 2 * j + 1 := ⟨i / 2, by omega⟩
      rw [elAt_odd]
      exact (hER j (by omega)).trans (relK_true (by omega))
  · intro y hy
    have hlt : 2 * relK x.ns - 1 < 2 * x.ns.length - 1 := by
      have := (List.getElem?_eq_some_iff.1 hy).1
      rwa [els_len] at this
    rw [els_get hlt] at hy
    cases hy
    rw [show 2 * relK x.ns - 1 = 2 * (relK x.ns - 1) + 1 by omega, elAt_odd]
    refine (hER _ (by omega)).trans ?_
    rw [show relK x.ns - 1 + 1 = relK x.ns by omega]
    exact relK_false (by omega)
/-- Where the elements stop being released. -/
theorem while_stop {α : Type} {p : α → Bool} {l pre : List α} {x : α} {k : Nat} (h : pre ++ [x] = l.take k) (h1 : ∀ y ∈ pre, p y = true) (h2 : p x = false) : l.takeWhile p = pre := by
  have e : l = pre ++ x :: l.drop k := (List.take_append_drop k l).symm.trans (by rw [← h, List.append_assoc]; rfl)
  rw [e, List.takeWhile_append_of_pos h1, List.takeWhile_cons, h2]
  simp
theorem while_all {α : Type} {p : α → Bool} {l : List α} (h1 : ∀ y ∈ l, p y = true) : l.takeWhile p = l := by
  have := List.takeWhile_append_of_pos (p := p) (l₁ := l) (l₂ := []) h1
  simpa using this
set_option maxRecDepth 100000 in
set_option maxHeartbeats 4000000 in
theorem base_no {S : Nat → Prop} {x : O} {w : World} (v : Value) (h : OAt S w v x) (hr : rightO Tp.nameB x = false) : Calls Try.prog 20 #[v] w (RetInts [] w) := by
  have C := Lib.hid (fun w' (hb : Below w.heap.size w w') => right_any S v x w' (h.below hb (Nat.le_refl _)))
  rw [hr] at C
  obtain ⟨an, cn, ae, ce, rfl, -⟩ := h.open_
  obtain ⟨Q, HQ⟩ : ∃ Q, Hid (RetInts [] w = Q) := ⟨_, rfl⟩
  rw [HQ.out]
  obtain ⟨hd, nm, oi, ui, ns, es⟩ := x
  simp only at C ⊢
  clear h hr
  generalize (⟨nm.toArray⟩ : ByteArray) = sv at *
  generalize ns.length = nl at *
  generalize es.length = el at *
  have HB1 := Lib.hid (Js.belowOne w (.cells #[.int .i64 hd, .string sv, .int .i64 oi, .int .i64 ui, .slice an nl cn, .slice ae el ce] 25))
  go_enter Try.func20, Try.ntmps20
  go_wp2_with (go_at_call 34; (with_reducible refine (C.out _ HB1.out).mono ?_); rintro e1 w1 ⟨rfl, hb1⟩; have HB2 := Lib.hid (HB1.out.trans (hb1.mono HB1.out.size)); clear hb1)
  rw [← HQ.out]
  exact ⟨_, rfl, IntsAt.nil _ _, HB2.out⟩
set_option maxRecDepth 100000 in
set_option maxHeartbeats 4000000 in
theorem base_yes {S : Nat → Prop} {x : O} {w : World} (v : Value) (h : OAt S w v x) (hr : rightO Tp.nameB x = true) : Calls Try.prog 20 #[v] w (RetInts (baseN x.ns x.es (relK x.ns)) w) := by
  have C := Lib.hid (fun w' (hb : Below w.heap.size w w') => right_any S v x w' (h.below hb (Nat.le_refl _)))
  rw [hr] at C
  obtain ⟨an, cn, ae, ce, rfl, -, -, -, -, hN, hE⟩ := h.open_
  obtain ⟨Q, HQ⟩ : ∃ Q, Hid (RetInts (baseN x.ns x.es (relK x.ns)) w = Q) := ⟨_, rfl⟩
  rw [HQ.out]
  have HW := Lib.hid (els_while hr)
  obtain ⟨i0, hi, hz0, hz1, hz2⟩ := info_parts int_info
  have HR := Lib.hid hr
  have HN := Lib.hid hN.any
  have HE := Lib.hid hE.any
  have HL := Lib.hid (right_lens hr)
  clear hN hE hr h
  have HB0 := Lib.hid (Js.belowOne w (.cells (oC x.h x.v x.o x.u (.slice an x.ns.length cn) (.slice ae x.es.length ce)) 25))
  have HO0 := Lib.hid (heap_alloc_new w (.cells (oC x.h x.v x.o x.u (.slice an x.ns.length cn) (.slice ae x.es.length ce)) 25))
  unfold oC at HB0 HO0
  obtain ⟨hd, nm, oi, ui, ns, es⟩ := x
  simp only at C HQ HW HN HE HL HB0 HO0 ⊢
  obtain ⟨N, HLn⟩ : ∃ N, Hid (ns.length = N) := ⟨_, rfl⟩
  obtain ⟨M, HLm⟩ : ∃ M, Hid (es.length = M) := ⟨_, rfl⟩
  refine (callsIn_wide (n := 6)).1 ?_
  refine callsIn_of_wp_marks Try.func20 rfl trivial ?_ rfl
  simp only [Try.ntmps20, List.size_toArray, List.length_cons, List.length_nil, Nat.reduceAdd, Nat.reduceSub, Array.replicate_succ, Array.replicate_zero, List.push_toArray, List.append_toArray, List.nil_append, List.cons_append]
  gi_wp2_with (first
    | (refine ⟨trivial, ?_⟩; gi_at_call 34; refine (callsIn_wide.2 (C.out _ HB0.out)).mono ?_; rintro e1 w1 ⟨rfl, hb1⟩; have HB1 := Lib.hid hb1; obtain ⟨c0, c1, c2, c3, c4, c5⟩ := six_of ((hb1.block _ (by simp)).trans HO0.out); have hlt1 := cell_lt c0; clear hb1)
    | (refine ⟨trivial, ?_⟩; gi_at_call 37; refine (callsIn_wide.2 (elements_any _ _ _ _ _ _ _ _ _ _ _)).mono ?_; rintro e w' ⟨rfl, rfl⟩))
  obtain ⟨bb, hbb⟩ : ∃ bb, w1.heap.size = bb := ⟨_, rfl⟩
  obtain ⟨w2, hw2⟩ : ∃ w2, (w1.alloc (.cells #[.slice none 0 0] 27)).alloc (.cells (oC hd nm oi ui (.slice an ns.length cn) (.slice ae es.length ce)) 25) = w2 := ⟨_, rfl⟩
  obtain ⟨q1, q2, q3, q4⟩ := two_cells w1 _ _ _ _ hw2
  rw [hw2]
  have HB2 : Hid (Below w.heap.size w w2) := (HB0.out.trans (HB1.out.mono HB0.out.size)).trans (q1.mono (Nat.le_of_lt hlt1))
  have H0 := Lib.hid (q3 0 _ rfl)
  have H4 := q4 4 _ rfl
  have H5 := q4 5 _ rfl
  rw [hbb] at H0 H4 H5 hlt1 q2 ⊢
  clear q1 q3 q4 hw2 HB1 HB0 HO0 C c0 c1 c2 c3 c4 c5 hbb
  have HSEQ := Lib.hid (els_seq (V := fun k => k < w.heap.size ∨ k = bb + 1) 5 (by omega) HR.out HN.out HE.out HB2.out (fun _ h => .inl h) (.inr rfl) (fun k (hk : k < w.heap.size ∨ k = bb + 1) => by omega) H4.1 H5.1)
  simp only at HSEQ
  refine wpIn_rangeFunc_ownV1 (by rfl) (by omega) (gf := 51) (lb := #[.pointer (some ⟨bb + 1, 0, none⟩)]) rfl trivial (enters_of Try.func51 (by kernel_rfl) rfl)
    HSEQ.out (fun _ => rfl) (fun k (hk : k < w.heap.size ∨ k = bb + 1) => by omega)
    (fun pre W => Hid (RowIn (w2.heap.size + 2) 3 1 bb 0 pre.length (intC (pre.map (·.1))) W) ∧ Hid (∀ y ∈ pre, y.2 = true) ∧ Hid (Below w.heap.size w W))
    (fun c pre W => c = .exit 0 ∧ ∃ p0 y, pre = p0 ++ [y] ∧ y.2 = false ∧ Hid (RowIn (w2.heap.size + 2) 3 1 bb 0 p0.length (intC (p0.map (·.1))) W) ∧ Hid (∀ y ∈ p0, y.2 = true) ∧ Hid (Below w.heap.size w W))
    (fun s X Y g h => ⟨h.1.out.gw g (by omega) (Nat.le_refl _), h.2.1, below_gw h.2.2.out g (by omega) (Nat.le_refl _)⟩)
    (fun c s X Y g h => by
      obtain ⟨e, p0, y, h1, h2, h3, h4, h5⟩ := h
      exact ⟨e, p0, y, h1, h2, h3.out.gw g (by omega) (Nat.le_refl _), h4, below_gw h5.out g (by omega) (Nat.le_refl _)⟩)
    ⟨⟨_, H0.out, World.ownsRow_nil _ _ _ _⟩, fun y hy => by simp at hy, HB2⟩ ⟨_, fun l x W K hK => by gi_wp2; exact hK, ?body⟩ ?done ?stop
  case body =>
    rintro l pre ⟨x, t⟩ W hsz ⟨HH, HAL, HBW⟩ hsp
    obtain ⟨hlt, -, -⟩ := els_next hsp
    have hpl : Hid (pre.length < 127) := by show _ < _; have := HL.out.2.1; omega
    obtain ⟨v, hv, hrow⟩ := HH.out
    obtain ⟨c0, f0⟩ := hv
    have hU : Hid (∀ k, VB (fun k => k < w.heap.size ∨ k = bb + 1) w2.heap.size k → k < w2.heap.size + 2 ∧ k ≠ bb) := fun k hk => by
      rcases hk with h | h | h
      · have : k < w.heap.size ∨ k = bb + 1 := h
        omega
      all_goals omega
    have hbl : Hid (bb < w2.heap.size) := by show _ < _; omega
    have hwl : Hid (w.heap.size < bb) := hlt1
    have hsz' := Lib.hid hsz
    clear hsp hlt HSEQ q2 hsz hlt1 H4 H5
    cases t with
    | false =>
      gi_wp2
      exact ⟨Kv.refl _ _, rfl, pre, (x, false), rfl, rfl, HH, HAL, HBW⟩
    | true =>
      gi_wp2_with (gi_at_builtin; refine wpListIn_append_own _ rfl _ _ 27 rfl (w2.heap.size + 2) 3 i0 (.int .i64 0) 1 8 Try.underlying27 hi hz0 hz1 hz2 rfl (by decide) _ _ _ rfl (hrow.alloc _) ⟨W.heap.size, 0, none⟩ 1 1 [.int .i64 x] rfl rfl (cell_one_new _ _ _) (by simp [Value.oneCell']) (by have := hpl.out; unfold maxLen; omega) (by have := hpl.out; omega) (by have := hsz'.out; simp; omega) ?_; intro v' w3 hown' hgrow _; obtain ⟨g', cap', rfl⟩ := ownsRow_succ hown'; have HB3 := Lib.hid (row_below hrow hgrow (Below.refl _ _) hsz'.out); have HH3 := Lib.hid ((HoldsA.below ⟨c0, f0⟩ HB3.out (by have := hbl.out; omega) : HoldsA w3 bb 0 v)); obtain ⟨c3, f3⟩ := HH3.out)
      refine ⟨kv_store HB3.out hU.out _, ?_, ?_, (HBW.out.trans (HB3.out.mono (by have := hbl.out; have := hwl.out; omega))).setCell (p := ⟨bb, 0, none⟩) (Nat.le_of_lt hwl.out) _⟩
      · show RowIn _ _ _ _ _ _ _ _
        rw [List.length_append, List.map_append, intC_append]
        exact ⟨_, HH3.out.set _, ownsRow_setCell_below hown' (by have := hbl.out; show bb < _; omega) _⟩
      · show ∀ y ∈ _, _
        intro y hy
        rcases List.mem_append.1 hy with h | h
        · exact HAL.out y h
        · rw [List.mem_singleton.1 h]
  case done =>
    rintro D xs W hD rfl ⟨HH, HAL, HBW⟩ hK
    have hres := HW.out
    rw [while_all HAL.out] at hres
    rw [hres] at HH
    obtain ⟨v, hv, hrow⟩ := HH.out
    obtain ⟨c0, f0⟩ := hv
    have hlen : ((elsL ns es).map (·.1)).length = (elsL ns es).length := by simp
    rw [hres] at hlen
    have HF : Hid (Q (.returned v) (W.putObj D (.deferred none))) := by
      show Q _ _
      rw [← HQ.out]
      have g := Gw.put W (.deferred none) (B := w2.heap.size) (.inl hD)
      exact ⟨v, rfl, ints_own (own_gw hrow g (Nat.le_refl _)) hlen (by rw [els_len]; have := HL.out.2.1; omega), below_gw HBW.out g (by omega) (Nat.le_refl _)⟩
    clear hlen hres hrow q2 hD
    gi_wp2
    refine ⟨by simp, .inl ⟨_, _, rfl, run_takeDeferred hK, ?_⟩⟩
    refine ⟨v, ?_, HF.out⟩
    simp [results, Try.f20, go_sem]
  case stop =>
    rintro D c pre W hD ⟨k, hk, hpre⟩ ⟨rfl, p0, y, rfl, hy, HH, HAL, HBW⟩ hK
    have hres := HW.out
    rw [while_stop hpre HAL.out hy] at hres
    rw [hres] at HH
    obtain ⟨v, hv, hrow⟩ := HH.out
    obtain ⟨c0, f0⟩ := hv
    have hlen : (p0.map (·.1)).length = p0.length := by simp
    rw [hres] at hlen
    have hp0 : p0.length ≤ 127 := by
      have := congrArg List.length hpre
      rw [List.length_append, List.length_take, els_len] at this
      have := HL.out.2.1
      omega
    have HF : Hid (Q (.returned v) (W.putObj D (.deferred none))) := by
      show Q _ _
      rw [← HQ.out]
      have g := Gw.put W (.deferred none) (B := w2.heap.size) (.inl hD)
      exact ⟨v, rfl, ints_own (own_gw hrow g (Nat.le_refl _)) hlen (by omega), below_gw HBW.out g (by omega) (Nat.le_refl _)⟩
    clear hlen hres hrow hpre hp0 q2 hD
    gi_wp2
    refine ⟨by simp, .inl ⟨_, _, rfl, run_takeDeferred hK, ?_⟩⟩
    refine ⟨v, ?_, HF.out⟩
    simp [results, Try.f20, go_sem]
theorem base_any {S : Nat → Prop} {x : O} {w : World} (v : Value) (h : OAt S w v x) : Calls Try.prog 20 #[v] w (RetInts (baseS Tp.nameB x) w) := by
  unfold baseS
  cases hr : rightO Tp.nameB x with
  | true => rw [if_pos rfl]; exact base_yes v h hr
  | false => rw [if_neg (by decide)]; exact base_no v h hr
end Go.Proofs.Ytnpbkjmlmdpggaa.Wk
