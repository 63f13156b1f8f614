import Derived.Test.YtcaehjflfpnenaaHk
/- The law HeapSorts. -/
set_option linter.unusedVariables false
set_option linter.unusedSimpArgs false
namespace Go.Proofs.Ytcaehjflfpnenaa.Hp
open Go.RowKit

set_option maxHeartbeats 8000000 in
set_option maxRecDepth 100000 in
theorem lsorts_walk (v : Value) (l : List Pr) (W : World) (hl : PairsAt W v l) : Calls Try.prog 4 #[v] W (AwakeRet W) := by
  obtain ⟨ao, cap, rfl, hbig, hcell⟩ := hl
  obtain ⟨Q, HQ⟩ : ∃ Q, Hid (AwakeRet W = Q) := ⟨_, rfl⟩
  rw [HQ.out]
  have HC := Lib.hid hcell
  clear hcell
  go_enter Try.func4, Try.ntmps4
  go_upto_region 5 with (first
    | (go_at_call 8; (with_reducible refine (awake_any W).mono ?_); rintro e w1 ⟨rfl, hb1⟩)
    | (go_at_call 9; (with_reducible refine (new_any w1).mono ?_); rintro e w2 ⟨rfl, rfl⟩))
  have hs0 := Lib.hid (new_is (base := W.heap.size) (w := w1) hb1.size)
  have HB1 := Lib.hid (hb1.alloc hb1.size (.cells #[.slice none 0 0] 42))
  generalize hb : w1.heap.size = b at *
  clear hb hb1
  generalize w1.alloc (.cells #[.slice none 0 0] 42) = w2 at *
  go_upto_region 6 with fail
  obtain ⟨N, hN⟩ : ∃ N : Nat, N = min l.length 200 := ⟨_, rfl⟩
  have hNl : N ≤ l.length := by omega
  have hN2 : N ≤ 200 := by omega
  have eN : (if (200 : Int) < (l.length : Int) then (200 : Int) else (l.length : Int)) = (N : Int) := by split <;> omega
  rw [eN]
  clear eN hN
  go_wp2_with fail
  go_loopw [6] (fun i wr => ∃ (k : Nat) (v : Value), i = .int .i64 k ∧ k ≤ N ∧ HpIs W.heap.size wr b v (sortP (l.take k)) ∧ Below W.heap.size W wr) (fun i _ => N - (intOf i).toNat)
  case atStart => exact ⟨0, _, rfl, by omega, hs0.out, HB1.out⟩
  case round =>
    obtain ⟨k, v, rfl, hk, hH, hBW⟩ := hrel
    by_cases hlt : k < N
    · obtain ⟨ab, o, rfl, hab, hcc⟩ := HC.out (by omega)
      have ⟨c1, c2⟩ := hcc k (by omega)
      have d1 := (hBW.cell (p := ⟨ab, o + k * 2, none⟩) hab).trans c1
      have d2 := (hBW.cell (p := ⟨ab, o + k * 2 + 1, none⟩) hab).trans c2
      have hkl : k < l.length := by omega
      have hS := Lib.hid (ins_next hkl)
      have hsl : (sortP (l.take k)).length ≤ 999 := by rw [length_sort, List.length_take]; omega
      have HH := Lib.hid hH
      have HBW := Lib.hid hBW
      clear hH hBW c1 c2 hcc
      generalize hx : at' l k = x at *
      obtain ⟨x1, x2⟩ := x
      dsimp only at *
      clear hx
      go_upto_region 9 with fail
      go_still_tail 11, (by kernel_rfl)
      change wpList _ _ _ _ _ wr.drew
      have HD : Hid (HpIs W.heap.size wr.drew b v (sortP (l.take k))) := HH.out.below (Below.refl _ _).drew
      have HBD : Hid (Below W.heap.size W wr.drew) := HBW.out.drew
      generalize wr.drew = wD at *
      go_wp2_with (go_at_call 13; (with_reducible refine (push_at HD.out hsl x1 x2 _ hS.out).mono ?_); rintro e w3 ⟨rfl, v3, g3, o3⟩)
      go_roundw
      case rel => exact ⟨k + 1, v3, by go_num, hlt, g3, HBD.out.trans (HD.out.stays o3)⟩
      case measure => simp [intOf]; omega
    · obtain rfl : N = k := by omega
      obtain ⟨S, hS⟩ : ∃ S, Hid (sortP (l.take N) = S) := ⟨_, rfl⟩
      have hSl : S.length = N := by rw [← hS.out, length_sort, List.length_take]; omega
      have HSA : Hid (Asc S) := by rw [← hS.out]; exact asc_sort _
      rw [hS.out] at hH
      have HH := Lib.hid hH
      have HBW := Lib.hid hBW
      have HSL := Lib.hid hSl
      clear hH hBW hSl hs0 HB1 hlt hk
      obtain ⟨i0, hi0, hz0, hz1, hz2⟩ := info_parts pair_info
      go_wp2_with fail
      go_loopw [7, 8] (fun o i wr => ∃ (k : Nat) (v vo : Value), o = vo ∧ i = .int .i64 k ∧ k ≤ N ∧ HpIs W.heap.size wr b v (S.drop k) ∧ wr.ownsRow W.heap.size 32 2 vo k (flat (S.take k)) ∧ Below W.heap.size W wr) (fun _ i _ => N - (intOf i).toNat)
      case atStart => exact ⟨0, _, _, rfl, rfl, by omega, HH.out, World.ownsRow_nil _ _ _ _, HBW.out⟩
      case round =>
        obtain ⟨k, v, vo, rfl, rfl, hk, hH, hR, hBW⟩ := hrel
        by_cases hlt : k < N
        · have hkl : k < S.length := by rw [HSL.out]; exact hlt
          rw [drop_cons hkl] at hH
          have HFN := Lib.hid (flat_next hkl)
          obtain ⟨ao2, cap2, rfl⟩ := row_form hR
          have hcase : k = 0 ∨ ∃ m, k = m + 1 ∧ LeP (at' S m) (at' S k) := by
            rcases Nat.eq_zero_or_pos k with h | h
            · exact .inl h
            · exact .inr ⟨k - 1, by omega, asc_at HSA.out (by omega) hkl⟩
          have hdl : ((N : Int) - 1 - (k : Int)) = (((S.drop (k + 1)).length : Nat) : Int) := by rw [List.length_drop, HSL.out]; omega
          have HDL := Lib.hid hdl
          have HH := Lib.hid hH
          have HR := Lib.hid hR
          have HBW := Lib.hid hBW
          clear hH hR hBW hdl
          rcases hcase with hk0 | ⟨m, rfl, hle⟩
          · have hk1 : ¬ 0 < k := by omega
            clear hk0
            generalize at' S k = x at *
            obtain ⟨x1, x2⟩ := x
            dsimp only at HH HFN
            go_upto_region 17 with (first
              | (go_at_call 11; (with_reducible refine (pop_head HH.out).mono ?_); rintro e w3 ⟨rfl, v3, g3, o3⟩)
              | (go_at_call 15; (with_reducible refine (len_at g3 _ HDL.out).mono ?_); rintro e w4 ⟨rfl, rfl⟩))
            have HF := far HH.out HR.out
            have HR3 := Lib.hid (row_only HR.out o3 HF.1 HF.2)
            have HB3 := Lib.hid (HBW.out.trans (HH.out.stays o3))
            have HG3 := Lib.hid g3
            have hsz : W.heap.size ≤ w3.heap.size := by have := g3.at; omega
            clear HF g3 o3
            go_upto_region 18 with (at_builtin; (refine wpList_append_lies _ rfl _ _ 22 rfl W.heap.size 32 i0 _ 2 16 Try.underlying22 hi0 hz0 hz1 hz2 rfl (by omega) _ k (flat (S.take k)) rfl (HR3.out.alloc _) ⟨w3.heap.size, 0, none⟩ 1 1 [.int .i64 x1, .int .i64 x2] rfl rfl (World.news_of_block (cs := #[.int .i64 x1, .int .i64 x2]) (t := 32) (fr := (0, 0)) (heap_alloc_new _ _)) (by simp [Value.oneCell']) (by omega) (by unfold maxLen; omega) (by omega) (by simp; omega) (w3.heap.size + 1) (by simp) ?_); intro g cp w4 hown hgrow hat hlt4)
            rw [HFN.out] at hown
            have G4 := Lib.hid (grow_step HG3.out HR3.out hgrow HB3.out)
            have HO4 := Lib.hid hown
            clear hown hgrow hat hlt4
            go_wp2_with fail
            go_roundw
            case rel => exact ⟨k + 1, v3, _, rfl, by go_num, by omega, G4.out.1, HO4.out, G4.out.2⟩
            case measure => simp [intOf]; omega
          · have HMC : Hid (m < S.length) := (by omega : m < S.length)
            rcases LeP_iff.1 hle with hl1 | ⟨hl1, hl2⟩
            · have hA : decide ((at' S (m + 1)).1 < (at' S m).1) = false := by simp; omega
              have hB : ((at' S (m + 1)).1 == (at' S m).1) = false := by simp; omega
              clear hle hl1
              generalize hy : at' S m = y at *
              have HY := Lib.hid hy
              clear hy
              obtain ⟨y1, y2⟩ := y
              generalize at' S (m + 1) = x at *
              obtain ⟨x1, x2⟩ := x
              dsimp only at hA hB
              dsimp only at HH HFN
              go_upto_region 17 with (first
                | (go_at_call 11; (with_reducible refine (pop_head HH.out).mono ?_); rintro e w3 ⟨rfl, v3, g3, o3⟩)
                | (go_at_call 15; (with_reducible refine (len_at g3 _ HDL.out).mono ?_); rintro e w4 ⟨rfl, rfl⟩))
              have HF := far HH.out HR.out
              have HR3 := Lib.hid (row_only HR.out o3 HF.1 HF.2)
              have HB3 := Lib.hid (HBW.out.trans (HH.out.stays o3))
              have HG3 := Lib.hid g3
              have hsz : W.heap.size ≤ w3.heap.size := by have := g3.at; omega
              clear HF g3 o3
              go_upto_region 18 with (at_builtin; (refine wpList_append_lies _ rfl _ _ 22 rfl W.heap.size 32 i0 _ 2 16 Try.underlying22 hi0 hz0 hz1 hz2 rfl (by omega) _ (m + 1) (flat (S.take (m + 1))) rfl (HR3.out.alloc _) ⟨w3.heap.size, 0, none⟩ 1 1 [.int .i64 x1, .int .i64 x2] rfl rfl (World.news_of_block (cs := #[.int .i64 x1, .int .i64 x2]) (t := 32) (fr := (0, 0)) (heap_alloc_new _ _)) (by simp [Value.oneCell']) (by omega) (by unfold maxLen; omega) (by omega) (by simp; omega) (w3.heap.size + 1) (by simp) ?_); intro g cp w4 hown hgrow hat hlt4)
              rw [HFN.out] at hown
              have G4 := Lib.hid (grow_step HG3.out HR3.out hgrow HB3.out)
              have HO4 := Lib.hid hown
              clear hown hgrow hat hlt4
              obtain ⟨q1, q2⟩ := row_cell HO4.out (by rw [List.length_take, HSL.out]; omega) (show m < m + 1 + 1 by omega)
              rw [at_take (by omega)] at q1 q2
              rw [HY.out] at q1 q2
              dsimp only at q1 q2
              go_wp2_with fail
              go_roundw
              case rel => exact ⟨m + 1 + 1, v3, _, rfl, by go_num, by omega, G4.out.1, HO4.out, G4.out.2⟩
              case measure => simp [intOf]; omega
            · have hA : decide ((at' S (m + 1)).2 < (at' S m).2) = false := by simp; omega
              clear hle hl2
              generalize hy : at' S m = y at *
              have HY := Lib.hid hy
              clear hy
              obtain ⟨y1, y2⟩ := y
              generalize at' S (m + 1) = x at *
              obtain ⟨x1, x2⟩ := x
              dsimp only at hA hl1
              have hl1 := hl1.symm
              subst hl1
              dsimp only at HH HFN
              go_upto_region 17 with (first
                | (go_at_call 11; (with_reducible refine (pop_head HH.out).mono ?_); rintro e w3 ⟨rfl, v3, g3, o3⟩)
                | (go_at_call 15; (with_reducible refine (len_at g3 _ HDL.out).mono ?_); rintro e w4 ⟨rfl, rfl⟩))
              have HF := far HH.out HR.out
              have HR3 := Lib.hid (row_only HR.out o3 HF.1 HF.2)
              have HB3 := Lib.hid (HBW.out.trans (HH.out.stays o3))
              have HG3 := Lib.hid g3
              have hsz : W.heap.size ≤ w3.heap.size := by have := g3.at; omega
              clear HF g3 o3
              go_upto_region 18 with (at_builtin; (refine wpList_append_lies _ rfl _ _ 22 rfl W.heap.size 32 i0 _ 2 16 Try.underlying22 hi0 hz0 hz1 hz2 rfl (by omega) _ (m + 1) (flat (S.take (m + 1))) rfl (HR3.out.alloc _) ⟨w3.heap.size, 0, none⟩ 1 1 [.int .i64 x1, .int .i64 x2] rfl rfl (World.news_of_block (cs := #[.int .i64 x1, .int .i64 x2]) (t := 32) (fr := (0, 0)) (heap_alloc_new _ _)) (by simp [Value.oneCell']) (by omega) (by unfold maxLen; omega) (by omega) (by simp; omega) (w3.heap.size + 1) (by simp) ?_); intro g cp w4 hown hgrow hat hlt4)
              rw [HFN.out] at hown
              have G4 := Lib.hid (grow_step HG3.out HR3.out hgrow HB3.out)
              have HO4 := Lib.hid hown
              clear hown hgrow hat hlt4
              obtain ⟨q1, q2⟩ := row_cell HO4.out (by rw [List.length_take, HSL.out]; omega) (show m < m + 1 + 1 by omega)
              rw [at_take (by omega)] at q1 q2
              rw [HY.out] at q1 q2
              dsimp only at q1 q2
              go_wp2_with fail
              go_roundw
              case rel => exact ⟨m + 1 + 1, v3, _, rfl, by go_num, by omega, G4.out.1, HO4.out, G4.out.2⟩
              case measure => simp [intOf]; omega
        · obtain rfl : N = k := by omega
          rw [show S.drop N = [] by rw [← HSL.out]; exact List.drop_length] at hH
          rw [show S.take N = S by rw [← HSL.out]; exact List.take_length] at hR
          obtain ⟨ao2, cap2, rfl⟩ := row_form hR
          have HH := Lib.hid hH
          have HR := Lib.hid hR
          have HBW := Lib.hid hBW
          have HP : Hid ((l.take N).Perm S) := by rw [← hS.out]; exact (perm_sort _).symm
          clear hH hR hBW hlt hk
          go_wp2_with fail
          go_loopw [12] (fun i wr => ∃ k : Nat, i = .int .i64 k ∧ k ≤ N ∧ HpIs W.heap.size wr b v [] ∧ wr.ownsRow W.heap.size 32 2 (.slice ao2 N cap2) N (flat S) ∧ Below W.heap.size W wr) (fun i _ => N - (intOf i).toNat)
          case atStart => exact ⟨0, rfl, by omega, HH.out, HR.out, HBW.out⟩
          case round =>
            obtain ⟨i, rfl, hi, hH, hR, hBW⟩ := hrel
            by_cases hlt : i < N
            · have HH := Lib.hid hH
              have HR := Lib.hid hR
              have HBW := Lib.hid hBW
              clear hH hR hBW
              go_wp2_with fail
              go_loopw [13, 14, 15] (fun a c j wr => ∃ k : Nat, a = .int .i64 (((l.take k).count (at' l i) : Nat) : Int) ∧ c = .int .i64 (((S.take k).count (at' l i) : Nat) : Int) ∧ j = .int .i64 k ∧ k ≤ N ∧ HpIs W.heap.size wr b v [] ∧ wr.ownsRow W.heap.size 32 2 (.slice ao2 N cap2) N (flat S) ∧ Below W.heap.size W wr) (fun _ _ j _ => N - (intOf j).toNat)
              case atStart => exact ⟨0, rfl, rfl, rfl, by omega, HH.out, HR.out, HBW.out⟩
              case round =>
                obtain ⟨k, rfl, rfl, rfl, hk, hH, hR, hBW⟩ := hrel
                by_cases hkn : k < N
                · obtain ⟨ab, o, rfl, hab, hcc⟩ := HC.out (by omega)
                  have ⟨c1, c2⟩ := hcc k (by omega)
                  have ⟨c3, c4⟩ := hcc i (by omega)
                  have d1 := (hBW.cell (p := ⟨ab, o + k * 2, none⟩) hab).trans c1
                  have d2 := (hBW.cell (p := ⟨ab, o + k * 2 + 1, none⟩) hab).trans c2
                  have d3 := (hBW.cell (p := ⟨ab, o + i * 2, none⟩) hab).trans c3
                  have d4 := (hBW.cell (p := ⟨ab, o + i * 2 + 1, none⟩) hab).trans c4
                  obtain ⟨g, cp, e0⟩ : ∃ g cp, Value.slice ao2 N cap2 = .slice (some ⟨g, 0, none⟩) N cp := by
                    rcases hR.2 with ⟨e, _⟩ | ⟨g, cp, cur, e, _⟩
                    · simp at e; omega
                    · exact ⟨g, cp, e⟩
                  simp only [Value.slice.injEq, true_and] at e0
                  obtain ⟨rfl, rfl⟩ := e0
                  obtain ⟨q1, q2⟩ := row_cell hR HSL.out hkn
                  obtain ⟨t1, ht1⟩ : ∃ t, decide (at' l k = at' l i) = t := ⟨_, rfl⟩
                  obtain ⟨t2, ht2⟩ : ∃ t, decide (at' S k = at' l i) = t := ⟨_, rfl⟩
                  have E1 := fun u => eq2_at (at' l k) (at' l i) t1 ht1 u
                  have E2 := fun u => eq2_at (at' S k) (at' l i) t2 ht2 u
                  have hc1 := cnt_le l k (at' l i)
                  have hc2 := cnt_le S k (at' l i)
                  have N1 := Lib.hid (cnt_next (show k < l.length by omega) (at' l i) t1 ht1)
                  have N2 := Lib.hid (cnt_next (show k < S.length by rw [HSL.out]; exact hkn) (at' l i) t2 ht2)
                  have HH := Lib.hid hH
                  have HR := Lib.hid hR
                  have HBW := Lib.hid hBW
                  clear hH hR hBW ht1 ht2 c1 c2 c3 c4 hcc
                  generalize List.count (at' l i) (l.take k) = A at *
                  generalize List.count (at' l i) (S.take k) = C at *
                  cases t1 <;> cases t2
                  all_goals
                    go_wp2_with fail
                    go_region
                    go_wp2_with fail
                    go_region
                    go_wp2_with fail
                    go_roundw
                    case rel => exact ⟨k + 1, by rw [N1.out]; go_num, by rw [N2.out]; go_num, by go_num, by omega, HH.out.below ((Below.refl _ _).drew.drew), HR.out, HBW.out.drew.drew⟩
                    case measure => simp [intOf]; omega
                · obtain rfl : N = k := by omega
                  have hcc : (l.take N).count (at' l i) = (S.take N).count (at' l i) := by
                    rw [HP.out.count_eq, ← HSL.out, List.take_length]
                  rw [hcc]
                  generalize List.count (at' l i) (S.take N) = A at *
                  have HH := Lib.hid hH
                  have HR := Lib.hid hR
                  have HBW := Lib.hid hBW
                  clear hH hR hBW hcc
                  go_wp2_with fail
                  go_roundw
                  case rel => exact ⟨i + 1, by go_num, by omega, HH.out, HR.out, HBW.out⟩
                  case measure => simp [intOf]; omega
            · go_wp2_with (go_at_call 11; (with_reducible refine (pop_nil hH).mono ?_); rintro e w9 ⟨rfl, v9, g9, o9⟩)
              rw [← HQ.out]
              exact ⟨rfl, hBW.trans (hH.stays o9)⟩
/-- What is known of an argument's pairs. -/
def Fits (W : World) (v : Value) (l : List Pr) : Prop := PairsAt W v l ∧ ∀ x ∈ l, (-9223372036854775808 ≤ x.1 ∧ x.1 ≤ 9223372036854775807) ∧ (-9223372036854775808 ≤ x.2 ∧ x.2 ≤ 9223372036854775807)
theorem lsorts_row (v : Value) (l : List Pr) (W : World) (hl : Fits W v l) : Calls Try.prog 4 #[v] W (AwakeRet W) := lsorts_walk v l W hl.1
end Go.Proofs.Ytcaehjflfpnenaa.Hp
