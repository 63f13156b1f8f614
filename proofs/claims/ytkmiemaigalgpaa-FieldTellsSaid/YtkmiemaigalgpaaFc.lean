import Derived.Test.YtkmiemaigalgpaaFb
/- Layer 5: the contract of copied. -/
set_option linter.unusedVariables false
set_option linter.unusedSimpArgs false
namespace Go.Proofs.Ytkmiemaigalgpaa.Js
open Go.RowKit Lex

theorem app_none (an : Option Addr) (cn : Nat) (ty : TypeId) (w : World) : (Builtin.append_ #[24, 24] ty #[.slice none 0 0, .slice an 0 cn]).run Try.prog w = .ok (.slice none 0 0) w := by
  obtain ⟨i1, hz3, hx0, hx1, hx2⟩ := info_parts str_info2
  cases an <;> simp [Builtin.append_, run_underlying Try.underlying24, sizeOf, typeInfo, zeroValue, hz3, hx0, hx1, Builtin.lenOf, Builtin.firstCells, loadCells, loadCellsFrom]
theorem ItemsAt.keep {S S' : Nat → Prop} {w w' : World} {d : Nat} {ai : Option Addr} {is : List J} (h : ItemsAt S w d ai is) (hS : ∀ b, S b → b < w.heap.size → S' b) (hk : ∀ b, S b → b < w.heap.size → w'.heap[b]? = w.heap[b]?) (hs : w.heap.size ≤ w'.heap.size) : ItemsAt S' w' d ai is := fun hp => by
  obtain ⟨b, off, q1, q2, q3, q4⟩ := h hp
  exact ⟨b, off, q1, hS b q2 q3, Nat.lt_of_lt_of_le q3 hs, fun i hi => by obtain ⟨u, r1, r2⟩ := q4 i hi; exact ⟨u, r1.keep (hk b q2 q3), r2.keep hS hk hs⟩⟩
theorem ItemsAt.below {S : Nat → Prop} {w w' : World} {d : Nat} {ai : Option Addr} {is : List J} (h : ItemsAt S w d ai is) (hb : Below w.heap.size w w') : ItemsAt S w' d ai is := h.keep (fun _ h _ => h) (fun b _ hl => hb.block b hl) hb.size

/-- A box and an answer, two blocks of six cells. -/
theorem two_boxes {w w1 : World} {C D : Array Value} {T : TypeId} (hb : Below ((w.alloc (.cells C T)).alloc (.cells D T)).heap.size ((w.alloc (.cells C T)).alloc (.cells D T)) w1) :
    w1.heap[w.heap.size]? = some (.cells C T (0, 0)) ∧ w1.heap[w.heap.size + 1]? = some (.cells D T (0, 0)) ∧ w.heap.size + 1 < w1.heap.size ∧ Below w.heap.size w w1 := by
  have hs := hb.size
  simp at hs
  exact ⟨by rw [hb.block _ (by simp; omega)]; exact two_old w _ _, by rw [hb.block _ (by simp)]; exact two_new w _ _, by omega, (((Below.refl _ _).alloc (Nat.le_refl _) _).alloc (by simp) _).trans (hb.mono (by simp; omega))⟩
theorem set_row {w : World} {b i : Nat} {T : TypeId} {cs : Array Value} {u : Value} (h : w.heap[b]? = some (.cells cs T (0, 0))) : (w.setCell ⟨b, i, none⟩ u).heap[b]? = some (.cells (cs.setIfInBounds i u) T (0, 0)) := heap_setCell_same w b i cs T u h

theorem belowTwo (w : World) (o1 o2 : Obj) : Below w.heap.size w ((w.alloc o1).alloc o2) := ((Below.refl _ _).alloc (Nat.le_refl _) _).alloc (by simp) _
theorem below_set1 {w w1 : World} {B b i : Nat} (h : Below B w w1) (hb : B ≤ b) (u : Value) : Below B w (w1.setCell ⟨b, i, none⟩ u) :=
  ⟨h.os, h.tape, h.output, by rw [size_set]; exact h.size, fun k hk => (heap_setCell_other _ _ _ _ (by show k ≠ b; omega)).trans (h.block k hk)⟩
set_option maxHeartbeats 4000000 in
set_option maxRecDepth 100000 in
theorem copied_step (d : Nat) (ih : CopOk d) : CopOk (d + 1) := by
  intro S w v j h
  obtain ⟨k, m, e, t, ns, is⟩ := j
  obtain ⟨d', an, cn, ai, ci, hd', rfl, hk, hm, he, ht, hns, hn1, hn, hi1, hi, hit⟩ := h.open_
  obtain rfl : d' = d := by omega
  obtain ⟨_, _, e1, -, -, htx, hc1⟩ := hns
  cases e1
  have HX := Lib.hid htx
  have HK := Lib.hid (And.intro hk (And.intro hm (And.intro he ht)))
  have H1 := Lib.hid hc1
  have HIT : Hid (ItemsAt S w d' ai is) := hit
  have HL := Lib.hid hi
  have HC := Lib.hid hi1
  have C1 : Hid (∀ w', Below w.heap.size w w' → Calls Try.prog 45 #[.slice ai is.length ci] w' (LRet w' d' is)) := fun w' hb => copiedAll_any S d' ih w' ai ci is HL.out HC.out (HIT.out.below hb)
  unfold LRet at C1
  obtain ⟨i1, hz3, hx0, hx1, hx2⟩ := info_parts str_info2
  clear hc1 hit htx hd' h hk hm he ht ih
  by_cases h0 : ns.length = 0
  · obtain rfl : ns = [] := List.length_eq_zero_iff.1 h0
    clear h0 H1 HX hn hn1
    rw [show ([] : List (List UInt8)).length = 0 from rfl]
    generalize hni : is.length = ni at *
    have HNI := Lib.hid hni
    clear hni
    rcases an with _ | a
    all_goals
      go_enter Try.func29, Try.ntmps29
      go_wp2_with (go_at_call 45; (with_reducible refine (C1.out _ (belowTwo _ _ _)).mono ?_); rintro e2 w2 ⟨ai2, ci2, rfl, hc2, hI2, hb2⟩; obtain ⟨x1, x2, x3, hbw⟩ := two_boxes hb2; obtain ⟨y0, y1, y2, y3, y4, y5⟩ := six_of x1; have f5 := free_of x1 5; obtain ⟨z0, z1, z2, z3, z4, z5⟩ := six_of x2; have g0 := free_of x2 0; have g1 := free_of x2 1; have g2 := free_of x2 2; have g3 := free_of x2 3; have g4 := free_of x2 4; have g5 := free_of x2 5)
      refine bodyPost_ret (v := .agg #[.int .i64 k, .int .i64 m, .int .i64 e, .string ⟨t.toArray⟩, .slice none 0 0, .slice ai2 ni ci2]) (by simp [results, Try.results29, go_sem, z0, z1, z2, z3, z4, z5]) rfl ?_
      obtain ⟨hk, hm, he, ht⟩ := HK.out
      rw [← HNI.out]
      exact cop_fin (ns := []) hbw hk hm he ht strs_none (by rw [HNI.out]; exact hi) (by rw [HNI.out]; exact hc2) (hI2.keep (fun b hb _ => by simpa using hb) (fun _ _ _ => rfl) (Nat.le_refl _)) (.int .i64 0) _ _ _ _ _ _ _
  · obtain ⟨b, off, rfl, hSb, hbl, hcl⟩ := H1.out (by omega)
    have hp : 0 < ns.length := by omega
    have HNEW : Hid (∀ o1 o2, ∀ j u, (ns.map strW)[j]? = some u → ((w.alloc o1).alloc o2).cell? ((⟨b, off, none⟩ : Addr).add j) = some u) := fun o1 o2 => strs_news (fun j hj => ((belowTwo w o1 o2).cell (p := ⟨b, off + j, none⟩) hbl).trans (hcl j hj))
    clear hcl h0 H1
    have HONE : Hid (∀ u ∈ ns.map strW, u.oneCell' = true) := one_strW
    generalize hni : is.length = ni at *
    have HNI := Lib.hid hni
    clear hni
    generalize hnn : ns.length = nn at *
    have HNN := Lib.hid hnn
    clear hnn
    have HLM : Hid ((ns.map strW).length = nn * 1) := by show _ = _; rw [List.length_map, HNN.out]; omega
    go_enter Try.func29, Try.ntmps29
    go_wp2_with (first
      | (at_builtin; (refine wpList_append_lies _ rfl _ _ 24 rfl (w.heap.size + 2) 9 i1 _ 1 16 Try.underlying24 hz3 hx0 hx1 hx2 rfl (by omega) _ 0 [] rfl ⟨rfl, .inl ⟨rfl, rfl⟩⟩ ⟨b, off, none⟩ nn cn (ns.map strW) rfl HLM.out (HNEW.out _ _) HONE.out (by omega) (by unfold maxLen; omega) (by omega) (by simp) (w.heap.size + 2) (by simp) ?_); intro g cp w3 hown hgrow hat hlt; rw [Nat.zero_add] at hown ⊢; have q1 := (hgrow.block w.heap.size (by simp; omega) (fun h => by cases h)).trans (two_old w _ _); have q2 := (hgrow.block (w.heap.size + 1) (by simp) (fun h => by cases h)).trans (two_new w _ _); have hs3 := hgrow.size; have hB3 := Lib.hid ((belowTwo w _ _).trans (Below.refl _ _ |>.grown hgrow (by simp; omega) (fun k hk => by cases hk) : Below w.heap.size _ w3)); obtain ⟨y0, y1, y2, y3, y4, y5⟩ := six_of q1; have f4 := free_of q1 4)
      | (go_at_call 45; (with_reducible refine (C1.out _ (below_set1 hB3.out (Nat.le_refl _) _)).mono ?_); rintro e4 w4 ⟨ai2, ci2, rfl, hc2, hI2, hb4⟩; have x1 := (hb4.block w.heap.size (by rw [size_set]; exact Own.block_lt q1)).trans (set_cell4 q1 _); have x2 := (hb4.block (w.heap.size + 1) (by rw [size_set]; exact Own.block_lt q2)).trans ((heap_setCell_other _ _ _ _ (by show w.heap.size + 1 ≠ w.heap.size; omega)).trans q2); have hs4 := hb4.size; have hB4 := Lib.hid ((below_set1 hB3.out (Nat.le_refl _) _).trans (hb4.mono (by rw [size_set]; exact Nat.le_of_lt (Own.block_lt q1)))); clear y0 y1 y2 y3 y4 y5 f4; obtain ⟨y0, y1, y2, y3, y4, y5⟩ := six_of x1; have f5 := free_of x1 5; obtain ⟨z0, z1, z2, z3, z4, z5⟩ := six_of x2; have g0 := free_of x2 0; have g1 := free_of x2 1; have g2 := free_of x2 2; have g3 := free_of x2 3; have g4 := free_of x2 4; have g5 := free_of x2 5; have hl4 := Own.block_lt x1; have hl5 := Own.block_lt x2))
    refine bodyPost_ret (v := .agg #[.int .i64 k, .int .i64 m, .int .i64 e, .string ⟨t.toArray⟩, .slice (some ⟨g, 0, none⟩) nn cp, .slice ai2 ni ci2]) (by simp [results, Try.results29, go_sem, z0, z1, z2, z3, z4, z5]) rfl ?_
    obtain ⟨hk, hm, he, ht⟩ := HK.out
    simp at hs3
    rw [List.nil_append] at hown
    rw [← HNN.out] at hown
    have hS3 := strs_own (w := w) hown (by rw [HNN.out]; exact hn) HX.out
    have hS4 := hS3.keep (S' := fun b => w.heap.size + 2 ≤ b) (w' := w4) (fun _ h _ => h) (fun b hb hl => (hb4.block b (by rw [size_set]; exact hl)).trans (heap_setCell_other _ _ _ _ (by show b ≠ w.heap.size; omega))) (by rw [size_set] at hs4; exact hs4)
    rw [← HNI.out, ← HNN.out]
    exact cop_fin hB4.out hk hm he ht hS4 (by rw [HNI.out]; exact hi) (by rw [HNI.out]; exact hc2) (hI2.keep (fun b hb _ => by rw [size_set] at hb; omega) (fun _ _ _ => rfl) (Nat.le_refl _)) (.int .i64 0) _ _ _ _ _ _ _
theorem copied_ok : ∀ d, CopOk d
  | 0 => fun S w v j h => h.elim
  | d + 1 => copied_step d (copied_ok d)
end Go.Proofs.Ytkmiemaigalgpaa.Js
