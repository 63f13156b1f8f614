import Derived.Test.YtkmiemaigalgpaaFa
import Derived.OwnWalk
/- Layer 5: values are copied, down to their last list. -/
set_option linter.unusedVariables false
set_option linter.unusedSimpArgs false
namespace Go.Proofs.Ytkmiemaigalgpaa.Js
open Go.RowKit Lex

/-- Six cells of a greater block are stored. -/
theorem put6_row {w : World} {b o : Nat} {T : TypeId} {cur : Array Value} (h : w.heap[b]? = some (.cells cur T (0, 0))) (ho : o + 6 ≤ cur.size) (c0 c1 c2 c3 c4 c5 : Value) :
    ∃ cur', (put6 w b o c0 c1 c2 c3 c4 c5).heap[b]? = some (.cells cur' T (0, 0)) ∧ cur'.size = cur.size ∧ (∀ i, i < o ∨ o + 6 ≤ i → cur'[i]? = cur[i]?) ∧ ∀ i, i < 6 → cur'[o + i]? = (#[c0, c1, c2, c3, c4, c5] : Array Value)[i]? := by
  unfold put6
  have e1 := heap_setCell_same w b o _ T c0 h
  have e2 := heap_setCell_same _ b (o + 1) _ T c1 e1
  have e3 := heap_setCell_same _ b (o + 2) _ T c2 e2
  have e4 := heap_setCell_same _ b (o + 3) _ T c3 e3
  have e5 := heap_setCell_same _ b (o + 4) _ T c4 e4
  have e6 := heap_setCell_same _ b (o + 5) _ T c5 e5
  refine ⟨_, e6, by simp, fun i hi => ?_, fun i hi => ?_⟩
  · simp only [Array.getElem?_setIfInBounds, Array.size_setIfInBounds]
    repeat rw [if_neg (by omega)]
  · obtain rfl | rfl | rfl | rfl | rfl | rfl : i = 0 ∨ i = 1 ∨ i = 2 ∨ i = 3 ∨ i = 4 ∨ i = 5 := by omega
    all_goals
      simp only [Array.getElem?_setIfInBounds, Array.size_setIfInBounds]
      clear e1 e2 e3 e4 e5 e6
      repeat (first | rw [if_pos (by first | omega | trivial)] | rw [if_neg (by omega)])
      try rfl

/-- Between the rounds: the first q items are copied. -/
structure CI (w : World) (d : Nat) (is : List J) (q : Nat) (wr : World) : Prop where
  bel : Below w.heap.size w wr
  blk : ∃ cur, wr.heap[w.heap.size]? = some (.cells cur 27 (0, 0)) ∧ cur.size = is.length * 6
  its : ∀ i, i < q → ∃ u, (aggC u).length = 6 ∧ LiesAt wr w.heap.size (i * 6) u ∧ JAt (fun b => w.heap.size < b) wr d u (is.getD i j0)
theorem CI.cells {w : World} {d : Nat} {is : List J} {q : Nat} {wr w2 : World} (h : CI w d is q wr) (hb : Below wr.heap.size wr w2) (hq : q < is.length) :
    (∀ i, i < 6 → ∃ c, w2.cell? ⟨w.heap.size, q * 6 + i, none⟩ = some c) ∧ ∀ i, w2.frozen? ⟨w.heap.size, i, none⟩ = false := by
  obtain ⟨cur, hc, hs⟩ := h.blk
  have hc2 := (hb.block _ (Own.block_lt hc)).trans hc
  refine ⟨fun i hi => ⟨cur[q * 6 + i]'(by omega), ?_⟩, fun i => free_of hc2 i⟩
  rw [cell_of_row _ _ _ _ _ _ hc2, Array.getElem?_eq_getElem]
theorem CI.step {w : World} {d : Nat} {is : List J} {q : Nat} {wr w2 : World} (h : CI w d is q wr) (hb : Below wr.heap.size wr w2) (hq : q < is.length) {c0 c1 c2 c3 c4 c5 : Value} (hJ : JAt (fun b => wr.heap.size ≤ b) w2 d (.agg #[c0, c1, c2, c3, c4, c5]) (is.getD q j0)) :
    CI w d is (q + 1) (put6 w2 w.heap.size (q * 6) c0 c1 c2 c3 c4 c5) := by
  obtain ⟨cur, hc, hs⟩ := h.blk
  have hl := Own.block_lt hc
  have hc2 := (hb.block _ hl).trans hc
  obtain ⟨cur', g1, g2, g3, g4⟩ := put6_row hc2 (o := q * 6) (by omega) c0 c1 c2 c3 c4 c5
  have hsz := put6_size w2 w.heap.size (q * 6) c0 c1 c2 c3 c4 c5
  have hot := put6_block w2 w.heap.size (q * 6) c0 c1 c2 c3 c4 c5
  obtain ⟨p1, p2, p3⟩ := put6_os w2 w.heap.size (q * 6) c0 c1 c2 c3 c4 c5
  have hbs := hb.size
  generalize put6 w2 w.heap.size (q * 6) c0 c1 c2 c3 c4 c5 = W at *
  refine ⟨⟨p1.trans (hb.os.trans h.bel.os), p2.trans (hb.tape.trans h.bel.tape), p3.trans (hb.output.trans h.bel.output), by have := h.bel.size; omega, fun k hk => (hot k (by omega)).trans ((hb.block k (by omega)).trans (h.bel.block k hk))⟩, ⟨cur', g1, by omega⟩, fun i hi => ?_⟩
  by_cases hiq : i < q
  · obtain ⟨u, h6, hu1, hu2⟩ := h.its i hiq
    refine ⟨u, h6, fun x c hx => ?_, (hu2.below hb (Nat.le_refl _)).keep (fun _ h _ => h) (fun b hb' _ => hot b (by omega)) (by omega)⟩
    have hx6 := (List.getElem?_eq_some_iff.1 hx).1
    have := hu1 x c hx
    rw [cell_of_row _ _ _ _ _ _ hc] at this
    rw [cell_of_row _ _ _ _ _ _ g1, g3 _ (by omega)]
    exact this
  · obtain rfl : i = q := by omega
    refine ⟨_, rfl, fun x c hx => ?_, hJ.keep (fun b hb' _ => by omega) (fun b hb' _ => hot b (by omega)) (by omega)⟩
    have hx6 : x < 6 := by simpa [aggC] using (List.getElem?_eq_some_iff.1 hx).1
    rw [cell_of_row _ _ _ _ _ _ g1, g4 x hx6]
    simpa [aggC] using hx
theorem CI.items {w : World} {d : Nat} {is : List J} {wr : World} (h : CI w d is is.length wr) : ItemsAt (fun b => w.heap.size ≤ b) wr d (some ⟨w.heap.size, 0, none⟩) is := fun _ => by
  obtain ⟨cur, hc, hs⟩ := h.blk
  refine ⟨_, 0, rfl, Nat.le_refl _, Own.block_lt hc, fun i hi => ?_⟩
  obtain ⟨u, _, h1, h2⟩ := h.its i hi
  exact ⟨u, by rw [Nat.zero_add]; exact h1, h2.keep (fun b hb _ => Nat.le_of_lt hb) (fun _ _ _ => rfl) (Nat.le_refl _)⟩

/-- What a copy leaves. -/
def CRet (w : World) (n : Nat) (j : J) (e : Ending) (w' : World) : Prop :=
  ∃ k m e1 t an nn cn ai ni ci, e = .returned (.agg #[.int .i64 k, .int .i64 m, .int .i64 e1, .string t, .slice an nn cn, .slice ai ni ci]) ∧
    JAt (fun b => w.heap.size ≤ b) w' n (.agg #[.int .i64 k, .int .i64 m, .int .i64 e1, .string t, .slice an nn cn, .slice ai ni ci]) j ∧ Below w.heap.size w w'
def CopOk (d : Nat) : Prop := ∀ (S : Nat → Prop) (w : World) (v : Value) (j : J), JAt S w d v j → Calls Try.prog 29 #[v] w (CRet w d j)
/-- What copies of a list leave. -/
def LRet (w : World) (d : Nat) (is : List J) (e : Ending) (w' : World) : Prop :=
  ∃ ai ci, e = .returned (.slice ai is.length ci) ∧ is.length ≤ ci ∧ ItemsAt (fun b => w.heap.size ≤ b) w' d ai is ∧ Below w.heap.size w w'
set_option maxHeartbeats 4000000 in
set_option maxRecDepth 100000 in
theorem copiedAll_any (S : Nat → Prop) (d : Nat) (ih : CopOk d) (w : World) (ai : Option Addr) (ci : Nat) (is : List J) (hl : is.length ≤ 1599289640354) (hc : is.length ≤ ci) (hit : ItemsAt S w d ai is) : Calls Try.prog 45 #[.slice ai is.length ci] w (LRet w d is) := by
  obtain ⟨i0, hi0, hz0, hz1, hz2⟩ := info_parts json_info
  have HIT := Lib.hid hit
  have IH := Lib.hid ih
  obtain ⟨n, HN⟩ : ∃ n, Hid (is.length = n) := ⟨_, rfl⟩
  rw [HN.out] at hl hc ⊢
  clear hit ih
  go_enter Try.func45, Try.ntmps45
  go_wp2_with (refine wpList_make_full _ rfl _ _ 25 rfl w.heap.size 27 i0 _ 6 Try.underlying25 hi0 hz0 hz1 .i64 .i64 _ _ n rfl rfl rfl rfl (by rw [hz2]; omega) (by unfold maxLen; omega) (Nat.le_refl _) ?_; intro w1 hown1 hgrow1)
  have hCI : CI w d is 0 w1 := by
    rcases hown1.2 with ⟨e, _⟩ | ⟨g, cap, cur, hv, hbg, hg, hnc, hcm, hcs, htake⟩
    · cases e
    · cases hv
      exact ⟨(Below.refl _ _).grown hgrow1 (Nat.le_refl _) (fun k hk => by cases hk), ⟨cur, hg, by rw [HN.out]; exact hcs⟩, fun i hi => absurd hi (Nat.not_lt_zero _)⟩
  have HCI := Lib.hid hCI
  clear hown1 hgrow1 hCI
  go_loopw [11] (fun i wr => ∃ q : Nat, q ≤ n ∧ i = .int .i64 q ∧ Hid (CI w d is q wr)) (fun i _ => n - (intOf i).toNat)
  case atStart => exact ⟨0, Nat.zero_le _, rfl, HCI⟩
  case round =>
    clear HCI
    obtain ⟨q, hq, rfl, HC⟩ := hrel
    by_cases hlt : q < n
    · obtain ⟨b, off, rfl, hSb, hbl, hel⟩ := HIT.out (by rw [HN.out]; omega)
      obtain ⟨u, hu1, hu2⟩ := hel q (by rw [HN.out]; omega)
      obtain ⟨k1, m1, e1, t1, an1, nn1, cn1, ai1, ni1, ci1, rfl⟩ := jAt_form hu2
      obtain ⟨x0, x1, x2, x3, x4, x5⟩ := (hu1.keep (HC.out.bel.block b hbl)).six
      have hblr : b < wr.heap.size := Nat.lt_of_lt_of_le hbl HC.out.bel.size
      have q1 : (q : Int) < (n : Int) := by omega
      have hlr : w.heap.size < wr.heap.size := by obtain ⟨cur, hc, _⟩ := HC.out.blk; exact Own.block_lt hc
      have C1 : Hid (∀ o, Calls Try.prog 29 #[.agg #[.int .i64 k1, .int .i64 m1, .int .i64 e1, .string t1, .slice an1 nn1 cn1, .slice ai1 ni1 ci1]] (wr.alloc o) (CRet (wr.alloc o) d (is.getD q j0))) := fun o =>
        IH.out S _ _ _ ((hu2.below HC.out.bel (Nat.le_refl _)).below ((Below.refl _ _).alloc (Nat.le_refl _) _) (Nat.le_refl _))
      unfold CRet at C1
      have HQ : Hid (q < is.length) := by show _ < _; rw [HN.out]; exact hlt
      clear hel hu1 hu2 IH
      go_wp2_with (go_at_call 29; (with_reducible refine (C1.out _).mono ?_); rintro e3 w3 ⟨k3, m3, e3', t3, an3, nn3, cn3, ai3, ni3, ci3, rfl, hJ3, hb3⟩; have hb3' := Lib.hid (show Below wr.heap.size wr w3 from Dec.below_call hb3); have hcc := HC.out.cells hb3'.out HQ.out; obtain ⟨z0, y0⟩ := hcc.1 0 (by omega); obtain ⟨z1, y1⟩ := hcc.1 1 (by omega); obtain ⟨z2, y2⟩ := hcc.1 2 (by omega); obtain ⟨z3, y3⟩ := hcc.1 3 (by omega); obtain ⟨z4, y4⟩ := hcc.1 4 (by omega); obtain ⟨z5, y5⟩ := hcc.1 5 (by omega); rw [Nat.add_zero] at y0; have f0 := hcc.2 (q * 6); have f1 := hcc.2 (q * 6 + 1); have f2 := hcc.2 (q * 6 + 2); have f3 := hcc.2 (q * 6 + 3); have f4 := hcc.2 (q * 6 + 4); have f5 := hcc.2 (q * 6 + 5); clear hcc; have hs3 := hb3'.out.size)
      go_roundw
      case rel => exact ⟨q + 1, by omega, by go_num, HC.out.step hb3'.out HQ.out (hJ3.keep (fun b hb _ => by simp at hb; omega) (fun _ _ _ => rfl) (Nat.le_refl _))⟩
      case measure => simp [intOf]; omega
    · obtain rfl : q = n := by omega
      go_wp2_with fail
      go_ret
      have hC := HC.out
      rw [← HN.out] at hC
      exact ⟨some ⟨w.heap.size, 0, none⟩, q, by rw [HN.out]; rfl, by rw [HN.out]; exact Nat.le_refl _, hC.items, hC.bel⟩

/-- Names that were appended to none. -/
theorem strs_own {w w' : World} {base g cap : Nat} {ns : List (List UInt8)} (h : w'.ownsRow base 9 1 (.slice (some ⟨g, 0, none⟩) ns.length cap) ns.length (ns.map strW)) (hn : ns.length ≤ 8796093021952) (ht : ∀ n ∈ ns, txtB n) : StrsAt (fun b => base ≤ b) w' (.slice (some ⟨g, 0, none⟩) ns.length cap) ns := by
  rcases h.2 with ⟨e, h0⟩ | ⟨g', cap', cur, hv, hbg, hg, hnc, hcm, hcs, htake⟩
  · cases e
  · cases hv
    refine ⟨_, _, rfl, hnc, hn, ht, fun _ => ⟨g, 0, rfl, hbg, Own.block_lt hg, fun j hj => ?_⟩⟩
    rw [Nat.zero_add]
    have := h.cellAt j (by omega)
    rw [this, List.getElem?_map, List.getElem?_eq_getElem hj, List.getD_eq_getElem?_getD, List.getElem?_eq_getElem hj]
    rfl
theorem strs_news {w : World} {b off : Nat} {ns : List (List UInt8)} (h : ∀ j, j < ns.length → w.cell? ⟨b, off + j, none⟩ = some (strW (ns.getD j []))) : ∀ j u, (ns.map strW)[j]? = some u → w.cell? ((⟨b, off, none⟩ : Addr).add j) = some u := fun j u hu => by
  rw [show (⟨b, off, none⟩ : Addr).add j = ⟨b, off + j, none⟩ by simp only [Addr.add]; split <;> simp_all]
  rw [List.getElem?_map] at hu
  cases hj : ns[j]? with
  | none => rw [hj] at hu; cases hu
  | some x =>
    rw [hj] at hu
    cases hu
    have hlt := (List.getElem?_eq_some_iff.1 hj).1
    rw [h j hlt, List.getD_eq_getElem?_getD, hj]
    rfl
theorem strs_none {S : Nat → Prop} {w : World} : StrsAt S w (.slice none 0 0) [] := ⟨none, 0, rfl, by simp, by simp, fun x hx => by simp at hx, fun h => by simp at h⟩
theorem one_strW {ns : List (List UInt8)} : ∀ u ∈ ns.map strW, u.oneCell' = true := fun u hu => by
  obtain ⟨x, _, rfl⟩ := List.mem_map.1 hu
  rfl
/-- A box of six cells whose two last ones are set, and the answer's. -/
theorem cop_fin {w w1 : World} {n : Nat} {k m e : Int} {t : List UInt8} {ns : List (List UInt8)} {is : List J} {an ai : Option Addr} {cn ci : Nat} (hB : Below w.heap.size w w1) (hk : i64B k) (hm : i64B m) (he : i64B e) (ht : txtB t)
    (hN : StrsAt (fun b => w.heap.size + 2 ≤ b) w1 (.slice an ns.length cn) ns) (hl : is.length ≤ 1599289640354) (hci : is.length ≤ ci) (hI : ItemsAt (fun b => w.heap.size + 2 ≤ b) w1 n ai is) (u4 u5 c0 c1 c2 c3 c4 c5 : Value) :
    CRet w (n + 1) (.mk k m e t ns is) (.returned (.agg #[.int .i64 k, .int .i64 m, .int .i64 e, .string ⟨t.toArray⟩, .slice an ns.length cn, .slice ai is.length ci])) (put6 (w1.setCell ⟨w.heap.size, 5, none⟩ u5) (w.heap.size + 1) 0 c0 c1 c2 c3 c4 c5) := by
  have hsz := put6_size (w1.setCell ⟨w.heap.size, 5, none⟩ u5) (w.heap.size + 1) 0 c0 c1 c2 c3 c4 c5
  rw [size_set] at hsz
  have hkeep : ∀ b, w.heap.size + 2 ≤ b → b < w1.heap.size → (put6 (w1.setCell ⟨w.heap.size, 5, none⟩ u5) (w.heap.size + 1) 0 c0 c1 c2 c3 c4 c5).heap[b]? = w1.heap[b]? := fun b hb _ => (put6_block _ _ 0 c0 c1 c2 c3 c4 c5 b (by omega)).trans (heap_setCell_other _ _ _ _ (by show b ≠ w.heap.size; omega))
  refine ⟨_, _, _, _, _, _, _, _, _, _, rfl, ⟨_, _, _, rfl, hk, hm, he, ht, hN.keep (fun b hb _ => by omega) hkeep (by omega), hci, hl, fun hp => ?_⟩, ?_⟩
  · obtain ⟨b, off, e1, e2, e3, e4⟩ := hI hp
    refine ⟨b, off, e1, by omega, by omega, fun i hi => ?_⟩
    obtain ⟨u, q1, q2⟩ := e4 i hi
    exact ⟨u, q1.keep (hkeep b e2 e3), q2.keep (fun b hb _ => by omega) hkeep (by omega)⟩
  · have h2 : Below w.heap.size w (w1.setCell ⟨w.heap.size, 5, none⟩ u5) := ⟨hB.os, hB.tape, hB.output, by rw [size_set]; exact hB.size, fun k hk => (heap_setCell_other _ _ _ _ (by show k ≠ w.heap.size; omega)).trans (hB.block k hk)⟩
    exact below_put6' h2 (by omega) _ _ _ _ _ _
end Go.Proofs.Ytkmiemaigalgpaa.Js
