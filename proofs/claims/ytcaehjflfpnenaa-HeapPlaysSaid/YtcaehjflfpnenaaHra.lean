import Derived.Test.YtcaehjflfpnenaaHr
/- The document's Push, where it does not stand last. -/
set_option linter.unusedVariables false
set_option linter.unusedSimpArgs false
namespace Go.Proofs.Ytcaehjflfpnenaa.Hp
open Go.RowKit

set_option maxHeartbeats 8000000 in
theorem rpush_a {base : Nat} {w : World} {b : Nat} {v : Value} {s : List Pr} (h : RfAt base w b v s) (h0 : 0 < s.length) (hs : s.length ≤ 999) (x1 x2 : Int) (HK : Hid (∃ i, i < s.length ∧ ltP (at' s i) (x1, x2) = false)) :
    Calls Try.prog 14 #[.pointer (some ⟨b, 0, none⟩), .int .i64 x1, .int .i64 x2] w (RPushRet base w b (insP (x1, x2) s)) := by
  obtain ⟨g, o, c, rfl, hnc, hgb, hgs⟩ := h.form h0
  obtain ⟨Q, HQ⟩ : ∃ Q, Hid (RPushRet base w b (insP (x1, x2) s) = Q) := ⟨_, rfl⟩
  rw [HQ.out]
  have hc := h.get
  have hf := h.thaw
  have hlt := h.lt
  have H := Lib.hid h
  clear h
  generalize hn : s.length = n at *
  have HN := Lib.hid hn
  clear hn
  go_enter Try.func14, Try.ntmps14
  go_upto_block 0 with fail
  go_cut [6] from 7 to 51 (fun s6 wx => ∃ k : Nat, s6 = .int .i64 k ∧ k ≤ n ∧ w = wx ∧ Hid (∀ i, i < k → ltP (at' s i) (x1, x2) = true) ∧ Hid (k = s.length ∨ ltP (at' s k) (x1, x2) = false))
  case first =>
    go_wp2_with fail
    go_loopw [6] (fun i wr => ∃ k : Nat, i = .int .i64 k ∧ k ≤ n ∧ w = wr ∧ Hid (∀ i, i < k → ltP (at' s i) (x1, x2) = true)) (fun i _ => n - (intOf i).toNat)
    case atStart => exact ⟨0, rfl, by omega, rfl, fun i h => absurd h (by omega)⟩
    case round =>
      obtain ⟨k, rfl, hk, rfl, hlo⟩ := hrel
      have hsn : s.length = n := HN.out
      by_cases hkn : k < n
      · obtain ⟨q1, q2⟩ := Src.get (i := k) (T := s) (by have := H.out.row; rw [HN.out] at this; exact this) hkn
        cases hlt2 : ltP (at' s k) (x1, x2) with
        | true =>
          have hnew : Hid (∀ i, i < k + 1 → ltP (at' s i) (x1, x2) = true) := fun i hi => by
            rcases Nat.lt_or_ge i k with h | h
            · exact hlo.out i h
            · obtain rfl : i = k := by omega
              exact hlt2
          have hc2 := ltP_iff.1 hlt2
          clear hlt2 hsn
          generalize at' s k = y at *
          obtain ⟨y1, y2⟩ := y
          dsimp only at *
          rcases hc2 with hA | ⟨hA, hB⟩
          · have e1 : decide (y1 < x1) = true := by simpa using hA
            clear hA
            go_wp2_with fail
            go_roundw
            case rel => exact ⟨k + 1, by go_num, hkn, trivial, hnew⟩
            case measure => simp [intOf]; omega
          · subst hA
            have e1 : decide (y2 < x2) = true := by simpa using hB
            clear hB
            go_wp2_with fail
            go_roundw
            case rel => exact ⟨k + 1, by go_num, hkn, trivial, hnew⟩
            case measure => simp [intOf]; omega
        | false =>
          have HE : Hid (k = s.length ∨ ltP (at' s k) (x1, x2) = false) := .inr hlt2
          have hc2 : (at' s k).1 ≠ x1 ∧ ¬ (at' s k).1 < x1 ∨ ((at' s k).1 = x1 ∧ ¬ (at' s k).2 < x2) := by
            have h3 : ¬ (ltP (at' s k) (x1, x2) = true) := by rw [hlt2]; simp
            rw [ltP_iff] at h3
            dsimp only at h3
            omega
          clear hlt2 hsn
          generalize hy : at' s k = y at q1 q2 hc2
          clear hy
          obtain ⟨y1, y2⟩ := y
          dsimp only at *
          rcases hc2 with ⟨hA, hB⟩ | ⟨hA, hB⟩
          · have e1 : decide (y1 < x1) = false := by simpa using hB
            have e2 : (y1 == x1) = false := by simpa using hA
            clear hA hB
            go_wp2_with fail
            go_meet
            exact ⟨k, rfl, hk, rfl, hlo, HE⟩
          · subst hA
            have e1 : decide (y2 < x2) = false := by simpa using hB
            clear hB
            go_wp2_with fail
            go_meet
            exact ⟨k, rfl, hk, rfl, hlo, HE⟩
      · obtain rfl : n = k := by omega
        have HE : Hid (n = s.length ∨ ltP (at' s n) (x1, x2) = false) := .inl hsn.symm
        clear hsn
        go_wp2_with fail
        go_meet
        exact ⟨n, rfl, hk, rfl, hlo, HE⟩
  case rest =>
    obtain ⟨k, rfl, hk, rfl, hlo, HE⟩ := hcut
    have hkn : k < n := by
      rcases HE.out with h | h
      · obtain ⟨i, hi, h2⟩ := HK.out
        rw [hlo.out i (by rw [h, HN.out]; exact hi)] at h2
        cases h2
      · rcases Nat.lt_or_ge k n with h3 | h3
        · exact h3
        · obtain ⟨i, hi, h2⟩ := HK.out
          rw [hlo.out i (by omega)] at h2
          cases h2
    clear HK
    have hS0 : Src w (.slice (some ⟨g, o, none⟩) n c) n s := by have := H.out.row; rw [HN.out] at this; exact this
    have S1 := Lib.hid (hS0.take (k := k) (by omega))
    have S2 := Lib.hid (hS0.drop (k := k) (by omega))
    have HINS := Lib.hid (ins_at (x1, x2) (k := k) (by rw [HN.out]; omega) hlo.out HE.out)
    have hkc : k ≤ c := by omega
    clear hS0 hlo HE
    have hck : ¬ c = k := by omega
    have S2' := Lib.hid (src_cast S2.out (v' := (.slice (some ⟨g, o + k * 2, none⟩) (n - k) (c - k))) (by rw [if_neg hck]) rfl rfl)
    clear S2
    go_upto_region 3 with fail
    go_region_law (first
      | (refine step_append_src (by rfl) _ _ (by rfl) w.heap.size (.slice none 0 0) 0 [] (by rfl) (World.ownsRow_nil _ _ _ _) (.slice (some ⟨g, o, none⟩) k c) k (s.take k) (by rfl) (S1.out.below ((Below.refl w.heap.size w).drew)) (by omega) (((Below.refl w.heap.size w).drew).size) ?_; intro vaA waA hown1 hgrow1 hat1; rw [Nat.zero_add, List.nil_append] at hown1; have HB1A : Hid (Below w.heap.size w waA) := ((Below.refl w.heap.size w).drew).grown hgrow1 (((Below.refl w.heap.size w).drew).size) (fun k hk => by cases hk); have HO1A := Lib.hid hown1; have k5a := (HB1A.out.cell (p := ⟨b, 0, none⟩) hlt).trans hc; have hla : b < waA.heap.size := Nat.lt_of_lt_of_le hlt HB1A.out.size; clear hown1 hgrow1 hat1)
      | (refine step_append_src (by rfl) _ _ (by rfl) w.heap.size (.slice none 0 0) 0 [] (by rfl) (World.ownsRow_nil _ _ _ _) (.slice (some ⟨g, o, none⟩) k c) k (s.take k) (by rfl) (S1.out.below (((Below.refl w.heap.size w).alloc (Nat.le_refl _) (Obj.cells #[Value.int IntKind.i64 x1, Value.int IntKind.i64 x2] 32)).drew)) (by omega) ((((Below.refl w.heap.size w).alloc (Nat.le_refl _) (Obj.cells #[Value.int IntKind.i64 x1, Value.int IntKind.i64 x2] 32)).drew).size) ?_; intro vaB waB hown1 hgrow1 hat1; rw [Nat.zero_add, List.nil_append] at hown1; have HB1B : Hid (Below w.heap.size w waB) := (((Below.refl w.heap.size w).alloc (Nat.le_refl _) (Obj.cells #[Value.int IntKind.i64 x1, Value.int IntKind.i64 x2] 32)).drew).grown hgrow1 ((((Below.refl w.heap.size w).alloc (Nat.le_refl _) (Obj.cells #[Value.int IntKind.i64 x1, Value.int IntKind.i64 x2] 32)).drew).size) (fun k hk => by cases hk); have HN1 : Hid (waB.heap[w.heap.size]? = some (.cells #[.int .i64 x1, .int .i64 x2] 32 (0, 0))) := (hgrow1.block w.heap.size (by simp) (by simp [Value.ownBlock])).trans (heap_alloc_new w _); have HO1B := Lib.hid hown1; have k5a := (HB1B.out.cell (p := ⟨b, 0, none⟩) hlt).trans hc; have hla : b < waB.heap.size := Nat.lt_of_lt_of_le hlt HB1B.out.size; clear hown1 hgrow1 hat1)
      | (refine step_append_src (by rfl) _ _ (by rfl) w.heap.size vaA k (s.take k) (by rfl) (HO1A.out.alloc _) (.slice (some ⟨waA.heap.size, 0, none⟩) 1 1) 1 [(x1, x2)] (by rfl) (news1 (x := (x1, x2)) (heap_alloc_new waA _)) (by omega) ((HB1A.out.alloc HB1A.out.size (Obj.cells #[Value.int IntKind.i64 x1, Value.int IntKind.i64 x2] 32)).size) ?_; intro vb wb hown2 hgrow2 hat2; have HB2 : Hid (Below w.heap.size w wb) := (HB1A.out.alloc HB1A.out.size (Obj.cells #[Value.int IntKind.i64 x1, Value.int IntKind.i64 x2] 32)).grown hgrow2 ((HB1A.out.alloc HB1A.out.size (Obj.cells #[Value.int IntKind.i64 x1, Value.int IntKind.i64 x2] 32)).size) (fun k hk => (World.ownsRow.lt HO1A.out k hk).1); have HO2 := Lib.hid hown2; have k5b := (HB2.out.cell (p := ⟨b, 0, none⟩) hlt).trans hc; have hlb : b < wb.heap.size := Nat.lt_of_lt_of_le hlt HB2.out.size; clear hown2 hgrow2 hat2)
      | (refine step_append_src (by rfl) _ _ (by rfl) w.heap.size vaB k (s.take k) (by rfl) HO1B.out (.slice (some ⟨w.heap.size, 0, none⟩) 1 1) 1 [(x1, x2)] (by rfl) (news1 (x := (x1, x2)) HN1.out) (by omega) (HB1B.out.size) ?_; intro vb wb hown2 hgrow2 hat2; have HB2 : Hid (Below w.heap.size w wb) := HB1B.out.grown hgrow2 (HB1B.out.size) (fun k hk => (World.ownsRow.lt HO1B.out k hk).1); have HO2 := Lib.hid hown2; have k5b := (HB2.out.cell (p := ⟨b, 0, none⟩) hlt).trans hc; have hlb : b < wb.heap.size := Nat.lt_of_lt_of_le hlt HB2.out.size; clear hown2 hgrow2 hat2)
      | (refine step_append_src (by rfl) _ _ (by rfl) w.heap.size vb (k + 1) (s.take k ++ [(x1, x2)]) (by rfl) HO2.out (.slice (some ⟨g, o + k * 2, none⟩) (n - k) (c - k)) (n - k) (s.drop k) (by rfl) (S2'.out.below HB2.out) (by omega) HB2.out.size ?_; intro vc wc hown3 hgrow3 hat3; obtain ⟨aoc, capc, rfl⟩ := row_form hown3; have HB3 : Hid (Below w.heap.size w wc) := HB2.out.grown hgrow3 HB2.out.size (fun k hk => (World.ownsRow.lt HO2.out k hk).1); have HO3 := Lib.hid hown3; have k5 := (HB3.out.cell (p := ⟨b, 0, none⟩) hlt).trans hc; have kf := (HB3.out.frozen (p := ⟨b, 0, none⟩) hlt).trans hf; clear hown3 hgrow3 hat3))
    all_goals
      have HD := Lib.hid (rpush_done (m := k + 1 + (n - k)) (s' := s.take k ++ [(x1, x2)] ++ s.drop k) H.out HB3.out HO3.out (by simp only [List.length_append, List.length_take, List.length_drop, List.length_cons, List.length_nil, HN.out]; omega) (by omega))
      go_wp2_with fail
      go_end0
      rw [← HQ.out]
      refine ⟨rfl, ?_⟩
      rw [HINS.out]
      exact ⟨_, HD.out⟩
end Go.Proofs.Ytcaehjflfpnenaa.Hp
