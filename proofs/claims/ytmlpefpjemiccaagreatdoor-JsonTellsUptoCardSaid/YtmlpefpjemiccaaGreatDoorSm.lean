import Derived.Test.YtmlpefpjemiccaaGreatDoorRt2
/- The contracts of Same and of what it calls. -/
set_option linter.unusedVariables false
set_option linter.unusedSimpArgs false
namespace Go.Proofs.YtmlpefpjemiccaaGreatDoor.Js
open Go.RowKit Lex

theorem drop_beq {α : Type} [BEq α] [LawfulBEq α] (a b : List α) (k : Nat) (z : α) (ha : k < a.length) (hb : k < b.length) : (a.drop k == b.drop k) = ((a.getD k z == b.getD k z) && (a.drop (k + 1) == b.drop (k + 1))) := by
  rw [List.drop_eq_getElem_cons ha, List.drop_eq_getElem_cons hb, List.getD_eq_getElem?_getD, List.getElem?_eq_getElem ha, Option.getD_some, List.getD_eq_getElem?_getD, List.getElem?_eq_getElem hb, Option.getD_some]
  rfl
theorem len_bne {α : Type} [BEq α] [LawfulBEq α] {a b : List α} (h : a.length ≠ b.length) : (a == b) = false := by
  rw [Bool.eq_false_iff]
  intro he
  rw [beq_iff_eq] at he
  exact h (by rw [he])
set_option maxHeartbeats 1000000 in
set_option maxRecDepth 100000 in
theorem eqStr_any (S S' : Nat → Prop) (v1 v2 : Value) (n1 n2 : List (List UInt8)) (w : World) (h1 : StrsAt S w v1 n1) (h2 : StrsAt S' w v2 n2) : Calls Tryz.prog 23 #[v1, v2] w (Ret (.bool (n1 == n2)) w) := by
  obtain ⟨a1, c1, rfl, _, l1, _, hc1⟩ := h1
  obtain ⟨a2, c2, rfl, _, l2, _, hc2⟩ := h2
  have H1 := Lib.hid hc1
  have H2 := Lib.hid hc2
  clear hc1 hc2
  by_cases hl : n1.length = n2.length
  · rw [← hl] at H2 l2 ⊢
    obtain ⟨n, HN⟩ : ∃ n, Hid (n1.length = n) := ⟨_, rfl⟩
    have HN2 : Hid (n2.length = n) := hl.symm.trans HN.out
    clear hl
    rw [HN.out] at H1 H2 l1 l2 ⊢
    obtain ⟨R, HR⟩ : ∃ R, Hid ((n1 == n2) = R) := ⟨_, rfl⟩
    rw [HR.out]
    go_enter Tryz.func23, Tryz.ntmps23
    go_wp2
    go_loopw [13] (fun i wr => ∃ k : Nat, k ≤ n ∧ i = .int .i64 k ∧ Below w.heap.size w wr ∧ Hid (R = (n1.drop k == n2.drop k))) (fun i _ => n - (intOf i).toNat)
    case atStart => exact ⟨0, Nat.zero_le _, rfl, Below.refl _ _, HR.out.symm⟩
    case round =>
      obtain ⟨k, hk, rfl, hb, HK⟩ := hrel
      by_cases hlt : k < n
      · obtain ⟨b1, o1, rfl, _, hb1, hx1⟩ := H1.out (by omega)
        obtain ⟨b2, o2, rfl, _, hb2, hx2⟩ := H2.out (by omega)
        have x1 := (hb.cell (p := ⟨b1, o1 + k, none⟩) hb1).trans (hx1 k hlt)
        have x2 := (hb.cell (p := ⟨b2, o2 + k, none⟩) hb2).trans (hx2 k hlt)
        have HS := Lib.hid (drop_beq n1 n2 k [] (by rw [HN.out]; exact hlt) (by rw [HN2.out]; exact hlt))
        unfold strW at x1 x2
        have i1 : (k : Int) < (n : Int) := by omega
        clear hx1 hx2 H1 H2
        generalize n1.getD k [] = X at *
        generalize n2.getD k [] = Y at *
        by_cases hxy : X = Y
        · subst hxy
          go_wp2_with fail
          go_quiet (fail)
          go_wp2_with fail
          go_roundw
          case rel => exact ⟨k + 1, by omega, by go_num, below_drewN hb _, by show _ = _; rw [HK.out, HS.out]; simp⟩
          case measure => simp [intOf]; omega
        · have hne : (X == Y) = false := by simpa using hxy
          go_wp2_with fail
          go_quiet (fail)
          go_wp2_with fail
          go_ret
          exact ⟨Quo.ret_bool (by rw [HK.out, HS.out, hne]; rfl), below_drewN hb _⟩
      · have HE : Hid (R = true) := by show _ = _; rw [HK.out, List.drop_of_length_le (by rw [HN.out]; omega), List.drop_of_length_le (by rw [HN2.out]; omega)]; rfl
        go_wp2_with fail
        go_ret
        exact ⟨Quo.ret_bool (by rw [HE.out]), hb⟩
  · have hl2 : ((n1.length : Int) != (n2.length : Int)) = true := by simp; omega
    rw [len_bne hl]
    go_enter Tryz.func23, Tryz.ntmps23
    go_wp2
    go_ret
    exact ⟨rfl, Below.refl _ _⟩

theorem two_old (w : World) (o1 o2 : Obj) : ((w.alloc o1).alloc o2).heap[w.heap.size]? = some o1 := by
  rw [Below.heap_alloc _ _ _ (by simp)]; exact heap_alloc_new w o1
theorem box_at {w w1 : World} {B : Nat} (hb : Below B w w1) {b : Nat} {cs : Array Value} {T : TypeId} {f : Nat × Nat} (h : w.heap[b]? = some (.cells cs T f)) (hB : b < B) (i : Nat) : w1.cell? ⟨b, i, none⟩ = cs[i]? := by
  rw [hb.cell (p := ⟨b, i, none⟩) hB]
  exact cell_of_row _ _ _ _ _ _ h
theorem sameL_step (a b : List J) (k : Nat) (ha : k < a.length) (hb : k < b.length) : sameL (a.drop k) (b.drop k) = (sameJ (a.getD k j0) (b.getD k j0) && sameL (a.drop (k + 1)) (b.drop (k + 1))) := by
  rw [List.drop_eq_getElem_cons ha, List.drop_eq_getElem_cons hb, List.getD_eq_getElem?_getD, List.getElem?_eq_getElem ha, Option.getD_some, List.getD_eq_getElem?_getD, List.getElem?_eq_getElem hb, Option.getD_some, sameL]
/-- Items that lie somewhere. -/
def ItemsAt (S : Nat → Prop) (w : World) (d : Nat) (ai : Option Addr) (is : List J) : Prop :=
  0 < is.length → ∃ b off, ai = some ⟨b, off, none⟩ ∧ S b ∧ b < w.heap.size ∧ ∀ i, i < is.length → ∃ u, LiesAt w b (off + i * 6) u ∧ JAt S w d u (is.getD i j0)
set_option maxHeartbeats 2000000 in
set_option maxRecDepth 100000 in
theorem eqJson_any (S S' : Nat → Prop) (d d2 : Nat) (ih : ∀ v1 v2 j1 j2 w, JAt S w d v1 j1 → JAt S' w d2 v2 j2 → Calls Tryz.prog 11 #[v1, v2] w (Ret (.bool (sameJ j1 j2)) w))
    (a1 a2 : Option Addr) (c1 c2 : Nat) (i1 i2 : List J) (w : World) (l1 : i1.length ≤ 140737488355328) (l2 : i2.length ≤ 140737488355328) (h1 : ItemsAt S w d a1 i1) (h2 : ItemsAt S' w d2 a2 i2) :
    Calls Tryz.prog 24 #[.slice a1 i1.length c1, .slice a2 i2.length c2, .func (.func 11) #[] #[]] w (Ret (.bool (sameL i1 i2)) w) := by
  unfold ItemsAt at h1 h2
  have H1 := Lib.hid h1
  have H2 := Lib.hid h2
  have IH := Lib.hid ih
  clear h1 h2 ih
  by_cases hl : i1.length = i2.length
  · rw [← hl] at H2 l2 ⊢
    obtain ⟨n, HN⟩ : ∃ n, Hid (i1.length = n) := ⟨_, rfl⟩
    have HN2 : Hid (i2.length = n) := hl.symm.trans HN.out
    clear hl
    rw [HN.out] at H1 H2 l1 l2 ⊢
    obtain ⟨R, HR⟩ : ∃ R, Hid (sameL i1 i2 = R) := ⟨_, rfl⟩
    rw [HR.out]
    go_enter Tryz.func24, Tryz.ntmps24
    go_wp2
    go_loopw [17] (fun i wr => ∃ k : Nat, k ≤ n ∧ i = .int .i64 k ∧ Below w.heap.size w wr ∧ Hid (R = sameL (i1.drop k) (i2.drop k))) (fun i _ => n - (intOf i).toNat)
    case atStart => exact ⟨0, Nat.zero_le _, rfl, Below.refl _ _, HR.out.symm⟩
    case round =>
      obtain ⟨k, hk, rfl, hb, HK⟩ := hrel
      by_cases hlt : k < n
      · obtain ⟨b1, o1, rfl, _, hb1, hx1⟩ := H1.out (by omega)
        obtain ⟨b2, o2, rfl, _, hb2, hx2⟩ := H2.out (by omega)
        obtain ⟨u, hu1, hu2⟩ := hx1 k hlt
        obtain ⟨v, hv1, hv2⟩ := hx2 k hlt
        obtain ⟨k1, m1, e1, t1, an1, nn1, cn1, ai1, ni1, ci1, rfl⟩ := jAt_form hu2
        obtain ⟨k2, m2, e2, t2, an2, nn2, cn2, ai2, ni2, ci2, rfl⟩ := jAt_form hv2
        obtain ⟨x0, x1, x2, x3, x4, x5⟩ := (hu1.keep (hb.block b1 hb1)).six
        obtain ⟨y0, y1, y2, y3, y4, y5⟩ := (hv1.keep (hb.block b2 hb2)).six
        have y0' := fun o => (Below.heap_alloc wr o b2 (Nat.lt_of_lt_of_le hb2 hb.size))
        have HS := Lib.hid (sameL_step i1 i2 k (by rw [HN.out]; exact hlt) (by rw [HN2.out]; exact hlt))
        have hJ1 := hu2.below hb (Nat.le_refl _)
        have hJ2 := hv2.below hb (Nat.le_refl _)
        have C1 := Lib.hid (fun w' (hb' : Below wr.heap.size wr w') => IH.out _ _ _ _ w' (hJ1.below hb' (Nat.le_refl _)) (hJ2.below hb' (Nat.le_refl _)))
        have hal : ∀ o o', Below wr.heap.size wr ((wr.alloc o).alloc o') := fun o o' => ((Below.refl _ _).alloc (Nat.le_refl _) _).alloc (by simp) _
        have HA := Lib.hid hal
        have q1 : (k : Int) < (n : Int) := by omega
        have hsz := hb.size
        have hlb : b2 < wr.heap.size := Nat.lt_of_lt_of_le hb2 hsz
        clear hx1 hx2 H1 H2 hu1 hu2 hv1 hv2 hJ1 hJ2 hal y0'
        generalize sameJ (i1.getD k j0) (i2.getD k j0) = r at *
        cases r with
        | true =>
          go_wp2_with (go_at_call 11; (with_reducible refine (C1.out _ (HA.out _ _)).mono ?_); rintro e1 w1 ⟨rfl, hb1⟩)
          go_roundw
          case rel => exact ⟨k + 1, by omega, by go_num, hb.trans (((HA.out _ _).trans (hb1.mono (by simp; omega))).mono hsz), by show _ = _; rw [HK.out, HS.out]; simp⟩
          case measure => simp [intOf]; omega
        | false =>
          go_wp2_with (go_at_call 11; (with_reducible refine (C1.out _ (HA.out _ _)).mono ?_); rintro e1 w1 ⟨rfl, hb1⟩)
          go_ret
          exact ⟨Quo.ret_bool (by rw [HK.out, HS.out]; rfl), hb.trans (((HA.out _ _).trans (hb1.mono (by simp; omega))).mono hsz)⟩
      · have HE : Hid (R = true) := by show _ = _; rw [HK.out, List.drop_of_length_le (by rw [HN.out]; omega), List.drop_of_length_le (by rw [HN2.out]; omega)]; rfl
        go_wp2_with fail
        go_ret
        exact ⟨Quo.ret_bool (by rw [HE.out]), hb⟩
  · have hl2 : ((i1.length : Int) != (i2.length : Int)) = true := by simp; omega
    rw [sameL_len hl]
    go_enter Tryz.func24, Tryz.ntmps24
    go_wp2
    go_ret
    exact ⟨rfl, Below.refl _ _⟩

set_option maxHeartbeats 2000000 in
set_option maxRecDepth 100000 in
theorem same_any (S S' : Nat → Prop) : ∀ (d d2 : Nat) (v1 v2 : Value) (j1 j2 : J) (w : World), JAt S w d v1 j1 → JAt S' w d2 v2 j2 → Calls Tryz.prog 11 #[v1, v2] w (Ret (.bool (sameJ j1 j2)) w) := by
  intro d
  induction d with
  | zero => intro d2 v1 v2 j1 j2 w h; exact h.elim
  | succ d ih =>
    intro d2 v1 v2 j1 j2 w h1 h2
    obtain ⟨k, m, e, t, ns, is⟩ := j1
    obtain ⟨k', m', e', t', ns', is'⟩ := j2
    obtain ⟨d', an, cn, ai, ci, hd', rfl, _, _, _, _, hns, _, hn, _, hi, hit⟩ := h1.open_
    obtain rfl : d' = d := by omega
    obtain ⟨d3, an', cn', ai', ci', hd3, rfl, _, _, _, _, hns', _, hn', _, hi', hit'⟩ := h2.open_
    have hb : ∀ o o', Below w.heap.size w ((w.alloc o).alloc o') := fun o o' => ((Below.refl _ _).alloc (Nat.le_refl _) _).alloc (by simp) _
    have HB := Lib.hid hb
    have E1 := Lib.hid (fun w' (hb' : Below w.heap.size w w') => eqStr_any S S' _ _ ns ns' w' (hns.below hb' (Nat.le_refl _)) (hns'.below hb' (Nat.le_refl _)))
    have I1 := Lib.hid (fun w' (hb' : Below w.heap.size w w') => eqJson_any S S' d' d3 (fun v1 v2 j1 j2 w a b => ih d3 v1 v2 j1 j2 w a b) ai ai' ci ci' is is' w' hi hi'
      (fun hp => by
        obtain ⟨b, off, e1, e2, e3, e4⟩ := hit hp
        exact ⟨b, off, e1, e2, Nat.lt_of_lt_of_le e3 hb'.size, fun i hi => by obtain ⟨u, q1, q2⟩ := e4 i hi; exact ⟨u, q1.keep (hb'.block b e3), q2.below hb' (Nat.le_refl _)⟩⟩)
      (fun hp => by
        obtain ⟨b, off, e1, e2, e3, e4⟩ := hit' hp
        exact ⟨b, off, e1, e2, Nat.lt_of_lt_of_le e3 hb'.size, fun i hi => by obtain ⟨u, q1, q2⟩ := e4 i hi; exact ⟨u, q1.keep (hb'.block b e3), q2.below hb' (Nat.le_refl _)⟩⟩))
    clear ih h1 h2 hns hns' hit hit' hb hd' hd3
    rw [sameJ]
    generalize ns.length = nn at *
    generalize ns'.length = nn' at *
    generalize is.length = ni at *
    generalize is'.length = ni' at *
    generalize (ns == ns') = rn at *
    generalize sameL is is' = ri at *
    by_cases hk : k = k'
    · subst hk
      by_cases hm : m = m' ∧ e = e'
      · obtain ⟨rfl, rfl⟩ := hm
        by_cases ht : t = t'
        · subst ht
          cases rn with
          | false =>
            go_enter Tryz.func11, Tryz.ntmps11
            go_wp2_with (go_at_call 23; (with_reducible refine (E1.out _ (HB.out _ _)).mono ?_); rintro e1 w1 ⟨rfl, hb1⟩)
            go_ret
            exact ⟨Quo.ret_bool (by simp), (HB.out _ _).trans (hb1.mono (by simp; omega))⟩
          | true =>
            go_enter Tryz.func11, Tryz.ntmps11
            go_wp2_with (first | (go_at_call 23; (with_reducible refine (E1.out _ (HB.out _ _)).mono ?_); rintro e1 w1 ⟨rfl, hb1⟩; have c5 := box_at hb1 (two_old _ _ _) (by simp; omega) 5; have d5 := box_at hb1 (two_new _ _ _) (by simp) 5; simp at c5 d5; have hb2 := (HB.out _ _).trans (hb1.mono (by simp; omega))) | (go_at_call 24; (with_reducible refine (I1.out _ hb2).mono ?_); rintro e1 w2 ⟨rfl, hb3⟩))
            go_ret
            exact ⟨Quo.ret_bool (by simp), hb2.trans (hb3.mono hb2.size)⟩
        · have hne : (t == t') = false := by simpa using ht
          go_enter Tryz.func11, Tryz.ntmps11
          go_wp2_with fail
          go_ret
          exact ⟨Quo.ret_bool (by simp [hne]), HB.out _ _⟩
      · by_cases hm1 : m = m'
        · subst hm1
          have hne : (e == e') = false := by simpa using hm
          go_enter Tryz.func11, Tryz.ntmps11
          go_wp2_with fail
          go_ret
          exact ⟨Quo.ret_bool (by simp [hne]), HB.out _ _⟩
        · have hne : (m == m') = false := by simpa using hm1
          go_enter Tryz.func11, Tryz.ntmps11
          go_wp2_with fail
          go_ret
          exact ⟨Quo.ret_bool (by simp [hne]), HB.out _ _⟩
    · have hne : (k == k') = false := by simpa using hk
      go_enter Tryz.func11, Tryz.ntmps11
      go_wp2_with fail
      go_ret
      exact ⟨Quo.ret_bool (by simp [hne]), HB.out _ _⟩
theorem same_of (S S' : Nat → Prop) (v1 v2 : Value) (j1 j2 : J) (w : World) (h1 : JA S w v1 j1) (h2 : JA S' w v2 j2) : Calls Tryz.prog 11 #[v1, v2] w (Ret (.bool (sameJ j1 j2)) w) := by
  obtain ⟨d1, h1⟩ := h1
  obtain ⟨d2, h2⟩ := h2
  exact same_any S S' d1 d2 v1 v2 j1 j2 w h1 h2
end Go.Proofs.YtmlpefpjemiccaaGreatDoor.Js
