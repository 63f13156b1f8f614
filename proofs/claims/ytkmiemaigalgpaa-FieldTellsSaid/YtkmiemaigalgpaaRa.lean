import Derived.Test.YtkmiemaigalgpaaFa
/- The document's Get. -/
set_option linter.unusedVariables false
set_option linter.unusedSimpArgs false
namespace Go.Proofs.Ytkmiemaigalgpaa.Js
open Go.RowKit Lex

/-- The document's Get tells an item as it lies (its memory is the value's own), or nothing. -/
def RG (S : Nat → Prop) (w : World) (d : Nat) (r : J × Bool) (e : Ending) (w' : World) : Prop :=
  ∃ k m e1 t an nn cn ai ni ci, e = .returned (.tuple #[.agg #[.int .i64 k, .int .i64 m, .int .i64 e1, .string t, .slice an nn cn, .slice ai ni ci], .bool r.2]) ∧
    JAt S w d (.agg #[.int .i64 k, .int .i64 m, .int .i64 e1, .string t, .slice an nn cn, .slice ai ni ci]) r.1 ∧ Below w.heap.size w w'
theorem box7 (w : World) (o o' : Obj) : Below w.heap.size w ((w.alloc o).alloc o') := ((Below.refl _ _).alloc (Nat.le_refl _) _).alloc (by simp) _
/-- The document's Get's loop, plain: where it stands at q, of an object. -/
theorem getS_at {k m e : Int} {t : List UInt8} {ns : List (List UInt8)} {is : List J} {nm : List UInt8} (hk : k = 7) : getS (.mk k m e t ns is) nm = if plcL nm ns 0 is.length < 0 then (j0, false) else (is.getD (plcL nm ns 0 is.length).toNat j0, true) := by
  subst hk
  rfl
theorem getS_not {k m e : Int} {t : List UInt8} {ns : List (List UInt8)} {is : List J} {nm : List UInt8} (hk : ¬ k = 7) : getS (.mk k m e t ns is) nm = (j0, false) := by
  unfold getS
  have : plc (.mk k m e t ns is) nm = -1 := by
    unfold plc
    rw [if_neg (show ¬ (J.mk k m e t ns is).k = 7 from hk)]
  rw [this, if_pos (by decide)]

set_option maxHeartbeats 4000000 in
set_option maxRecDepth 100000 in
theorem rget_any (S : Nat → Prop) (d : Nat) (v : Value) (j : J) (nm : List UInt8) (w : World) (h : JAt S w d v j) : Calls Try.prog 9 #[v, .string ⟨nm.toArray⟩] w (RG S w d (getS j nm)) := by
  obtain ⟨k, m, e, t, ns, is⟩ := j
  obtain ⟨d', an, cn, ai, ci, rfl, rfl, _, _, _, _, hns, hn1, hn, hi1, hi, hit⟩ := h.open_
  obtain ⟨_, _, e1, _, _, _, hc1⟩ := hns
  cases e1
  have H1 := Lib.hid hc1
  have H2 := Lib.hid hit
  have HZ : Hid (JAt S w (d' + 1) (bareV 0 0 0 []) j0) := leaf_jat ⟨by decide, by decide⟩ ⟨by decide, by decide⟩ ⟨by decide, by decide⟩ (by unfold txtB; simp)
  clear hc1 hit h
  by_cases hk : k = 7
  · rw [getS_at hk]
    subst hk
    obtain ⟨R, HR⟩ : ∃ R, Hid (plcL nm ns 0 is.length = R) := ⟨_, rfl⟩
    rw [HR.out]
    obtain ⟨G, HG⟩ : ∃ G : J × Bool, Hid (G = if R < 0 then (j0, false) else (is.getD R.toNat j0, true)) := ⟨_, rfl⟩
    rw [← HG.out]
    obtain ⟨nn, HN⟩ : ∃ n, Hid (ns.length = n) := ⟨_, rfl⟩
    obtain ⟨ni, HI⟩ : ∃ n, Hid (is.length = n) := ⟨_, rfl⟩
    rw [HN.out] at H1 hn hn1 ⊢
    rw [HI.out] at hi hi1 HR H2 ⊢
    go_enter Try.func9, Try.ntmps9
    go_wp2_with fail
    go_loopw [6] (fun i wr => ∃ q : Nat, q ≤ nn ∧ q ≤ ni ∧ i = .int .i64 q ∧ (w.alloc (.cells #[.int .i64 7, .int .i64 m, .int .i64 e, .string ⟨t.toArray⟩, .slice an nn cn, .slice ai ni ci] 27)).alloc (.cells #[.int .i64 0, .int .i64 0, .int .i64 0, .string ⟨#[]⟩, .slice none 0 0, .slice none 0 0] 27) = wr ∧ Hid (plcL nm (ns.drop q) q ni = R)) (fun i _ => nn - (intOf i).toNat)
    case atStart => exact ⟨0, Nat.zero_le _, Nat.zero_le _, rfl, rfl, HR⟩
    case round =>
      obtain ⟨q, hq, hq2, rfl, rfl, HK⟩ := hrel
      by_cases hlt : q < nn ∧ q < ni
      · obtain ⟨l1, l2⟩ := hlt
        obtain ⟨b1, o1, rfl, _, hb1, hx1⟩ := H1.out (by omega)
        obtain ⟨b2, o2, rfl, hS2, hb2, hx2⟩ := H2.out (by omega)
        obtain ⟨u, hu1, hu2⟩ := hx2 q l2
        obtain ⟨k4, m4, e4, t4, an4, nn4, cn4, ai4, ni4, ci4, rfl⟩ := jAt_form hu2
        have hbx := box7 w (.cells #[.int .i64 7, .int .i64 m, .int .i64 e, .string ⟨t.toArray⟩, .slice (some ⟨b1, o1, none⟩) nn cn, .slice (some ⟨b2, o2, none⟩) ni ci] 27) (.cells #[.int .i64 0, .int .i64 0, .int .i64 0, .string ⟨#[]⟩, .slice none 0 0, .slice none 0 0] 27)
        have x1 := (hbx.cell (p := ⟨b1, o1 + q, none⟩) hb1).trans (hx1 q l1)
        obtain ⟨y0, y1, y2, y3, y4, y5⟩ := (hu1.keep (hbx.block b2 hb2)).six
        have HS := Lib.hid (drop_getD0 (l := ns) (q := q) [] (by rw [HN.out]; exact l1))
        have HJ := Lib.hid hu2
        have HBX := Lib.hid hbx
        unfold strW at x1
        have i1 : (q : Int) < (nn : Int) := by omega
        have i2 : (q : Int) < (ni : Int) := by omega
        clear hx1 H1 hx2 H2 hu1 hu2 hbx
        generalize ns.getD q [] = X at *
        by_cases hxy : X = nm
        · subst hxy
          have HGE : Hid (G = (is.getD q j0, true)) := by
            show _ = _
            rw [HG.out, ← HK.out, HS.out, plcL, if_pos l2, if_pos rfl, if_neg (by omega), Int.toNat_natCast]
          obtain rfl := HGE.out
          clear HGE HG HK HS
          go_wp2_with fail
          exact bodyPost_ret (v := .tuple #[.agg #[.int .i64 k4, .int .i64 m4, .int .i64 e4, .string t4, .slice an4 nn4 cn4, .slice ai4 ni4 ci4], .bool true]) (by simp [results, Try.results9, go_sem]) rfl ⟨_, _, _, _, _, _, _, _, _, _, rfl, HJ.out.deep (Nat.le_succ _), box7 w _ _⟩
        · have hne : (X == nm) = false := by simpa using hxy
          have HXY := Lib.hid hxy
          clear hxy
          go_wp2_with fail
          go_roundw
          case rel => exact ⟨q + 1, by omega, by omega, by go_num, trivial, by show _ = _; rw [← HK.out, HS.out, plcL, if_pos l2, if_neg HXY.out]⟩
          case measure => simp [intOf]; omega
      · have HE : Hid (G = (j0, false)) := by
          show _ = _
          rw [HG.out]
          have : R = -1 := by
            rw [← HK.out]
            by_cases h : q < nn
            · rw [drop_getD0 (l := ns) (q := q) [] (by rw [HN.out]; exact h), plcL, if_neg (by omega)]
            · rw [List.drop_of_length_le (by rw [HN.out]; omega), plcL]
          rw [this, if_pos (by decide)]
        obtain rfl := HE.out
        clear HE HG HK
        by_cases h : q < nn
        · have i1 : (q : Int) < (nn : Int) := by omega
          have i2 : ¬ (q : Int) < (ni : Int) := by omega
          go_wp2_with fail
          exact bodyPost_ret (v := .tuple #[.agg #[.int .i64 0, .int .i64 0, .int .i64 0, .string ⟨#[]⟩, .slice none 0 0, .slice none 0 0], .bool false]) (by simp [results, Try.results9, go_sem]) rfl ⟨_, _, _, _, _, _, _, _, _, _, rfl, HZ.out, box7 w _ _⟩
        · have i1 : ¬ (q : Int) < (nn : Int) := by omega
          go_wp2_with fail
          exact bodyPost_ret (v := .tuple #[.agg #[.int .i64 0, .int .i64 0, .int .i64 0, .string ⟨#[]⟩, .slice none 0 0, .slice none 0 0], .bool false]) (by simp [results, Try.results9, go_sem]) rfl ⟨_, _, _, _, _, _, _, _, _, _, rfl, HZ.out, box7 w _ _⟩
  · rw [getS_not hk]
    have hkb : (k == 7) = false := by simpa using hk
    clear H1 H2
    generalize ns.length = nn at *
    generalize is.length = ni at *
    go_enter Try.func9, Try.ntmps9
    go_wp2_with fail
    go_loopw [6] (fun i wr => i = .int .i64 0 ∧ (w.alloc (.cells #[.int .i64 k, .int .i64 m, .int .i64 e, .string ⟨t.toArray⟩, .slice an nn cn, .slice ai ni ci] 27)).alloc (.cells #[.int .i64 0, .int .i64 0, .int .i64 0, .string ⟨#[]⟩, .slice none 0 0, .slice none 0 0] 27) = wr) (fun _ _ => 0)
    case atStart => exact ⟨rfl, rfl⟩
    case round =>
      obtain ⟨rfl, rfl⟩ := hrel
      by_cases h1 : 0 < nn
      · have i1 : (0 : Int) < (nn : Int) := by omega
        by_cases h2 : 0 < ni
        · have i2 : (0 : Int) < (ni : Int) := by omega
          go_wp2_with fail
          exact bodyPost_ret (v := .tuple #[.agg #[.int .i64 0, .int .i64 0, .int .i64 0, .string ⟨#[]⟩, .slice none 0 0, .slice none 0 0], .bool false]) (by simp [results, Try.results9, go_sem]) rfl ⟨_, _, _, _, _, _, _, _, _, _, rfl, HZ.out, box7 w _ _⟩
        · have i2 : ¬ (0 : Int) < (ni : Int) := by omega
          go_wp2_with fail
          exact bodyPost_ret (v := .tuple #[.agg #[.int .i64 0, .int .i64 0, .int .i64 0, .string ⟨#[]⟩, .slice none 0 0, .slice none 0 0], .bool false]) (by simp [results, Try.results9, go_sem]) rfl ⟨_, _, _, _, _, _, _, _, _, _, rfl, HZ.out, box7 w _ _⟩
      · have i1 : ¬ (0 : Int) < (nn : Int) := by omega
        go_wp2_with fail
        exact bodyPost_ret (v := .tuple #[.agg #[.int .i64 0, .int .i64 0, .int .i64 0, .string ⟨#[]⟩, .slice none 0 0, .slice none 0 0], .bool false]) (by simp [results, Try.results9, go_sem]) rfl ⟨_, _, _, _, _, _, _, _, _, _, rfl, HZ.out, box7 w _ _⟩
end Go.Proofs.Ytkmiemaigalgpaa.Js
