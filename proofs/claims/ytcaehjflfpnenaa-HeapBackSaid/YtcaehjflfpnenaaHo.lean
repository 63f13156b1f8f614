import Derived.Test.YtcaehjflfpnenaaHn
/- The law HeapBack. -/
set_option linter.unusedVariables false
set_option linter.unusedSimpArgs false
namespace Go.Proofs.Ytcaehjflfpnenaa.Hp
open Go.RowKit

theorem ins_back {S : List Pr} (h : Asc S) {j : Nat} (hj : j < S.length) : insP (at' S j) (S.drop (j + 1)) = S.drop j := by
  rw [drop_cons hj]
  refine ins_least (fun y hy => ?_)
  obtain ⟨i, hi, rfl⟩ := List.mem_iff_getElem.1 hy
  rw [List.getElem_drop, ← at_lt (by rw [List.length_drop] at hi; omega)]
  exact asc_at h (by omega) (by rw [List.length_drop] at hi; omega)
set_option maxHeartbeats 8000000 in
set_option maxRecDepth 100000 in
theorem lback_walk (v : Value) (l : List Pr) (t : Int) (W : World) (hl : Fits W v l) (ht0 : -9223372036854775808 ≤ t) (ht1 : t ≤ 9223372036854775807) : Calls Try.prog 7 #[v, .int .i64 t] W (AwakeRet W) := by
  obtain ⟨⟨ao, cap, rfl, hbig, hcell⟩, -⟩ := hl
  obtain ⟨Q, HQ⟩ : ∃ Q, Hid (AwakeRet W = Q) := ⟨_, rfl⟩
  rw [HQ.out]
  have HC := Lib.hid hcell
  clear hcell
  obtain ⟨i0, hi0, hz0, hz1, hz2⟩ := info_parts pair_info
  go_enter Try.func7, Try.ntmps7
  go_upto_region 5 with (first
    | (go_at_call 8; (with_reducible refine (awake_any W).mono ?_); rintro e w1 ⟨rfl, hb1⟩)
    | (go_at_call 9; (with_reducible refine (new_any w1).mono ?_); rintro e w2 ⟨rfl, rfl⟩))
  have hs0 := Lib.hid (new_is (base := W.heap.size) (w := w1) hb1.size)
  have HB1 := Lib.hid (hb1.alloc hb1.size (.cells #[.slice none 0 0] 42))
  generalize hb : w1.heap.size = b at *
  clear hb hb1
  generalize w1.alloc (.cells #[.slice none 0 0] 42) = w2 at *
  go_upto_region 6 with fail
  obtain ⟨N, hN⟩ : ∃ N : Nat, N = min l.length 100 := ⟨_, rfl⟩
  have hNl : N ≤ l.length := by omega
  have hN2 : N ≤ 100 := by omega
  rw [show (if (100 : Int) < (l.length : Int) then (100 : Int) else (l.length : Int)) = (N : Int) by split <;> omega]
  clear hN
  go_wp2_with fail
  go_loopw [8] (fun i wr => ∃ (k : Nat) (v : Value), i = .int .i64 k ∧ k ≤ N ∧ HpIs W.heap.size wr b v (sortP (l.take k)) ∧ Below W.heap.size W wr) (fun i _ => N - (intOf i).toNat)
  case atStart => exact ⟨0, _, rfl, by omega, hs0.out, HB1.out⟩
  case round =>
    obtain ⟨k, v, rfl, hk, hH, hBW⟩ := hrel
    by_cases hlt : k < N
    · obtain ⟨ab, o, rfl, hab, hcc⟩ := HC.out (by omega)
      have ⟨c1, c2⟩ := hcc k (by omega)
      have d1 := (hBW.cell (p := ⟨ab, o + k * 2, none⟩) hab).trans c1
      have d2 := (hBW.cell (p := ⟨ab, o + k * 2 + 1, none⟩) hab).trans c2
      have hkl : k < l.length := by omega
      have hS := Lib.hid (ins_next hkl)
      have hsl : (sortP (l.take k)).length ≤ 999 := by rw [length_sort, List.length_take]; omega
      have HH := Lib.hid hH
      have HBW := Lib.hid hBW
      clear hH hBW c1 c2 hcc
      generalize hx : at' l k = x at *
      obtain ⟨x1, x2⟩ := x
      dsimp only at *
      clear hx
      go_upto_region 9 with fail
      go_still_tail 11, (by kernel_rfl)
      change wpList _ _ _ _ _ wr.drew
      have HD : Hid (HpIs W.heap.size wr.drew b v (sortP (l.take k))) := HH.out.below (Below.refl _ _).drew
      have HBD : Hid (Below W.heap.size W wr.drew) := HBW.out.drew
      generalize wr.drew = wD at *
      go_wp2_with (go_at_call 13; (with_reducible refine (push_at HD.out hsl x1 x2 _ hS.out).mono ?_); rintro e w3 ⟨rfl, v3, g3, o3⟩)
      go_roundw
      case rel => exact ⟨k + 1, v3, by go_num, hlt, g3, HBD.out.trans (HD.out.stays o3)⟩
      case measure => simp [intOf]; omega
    · obtain rfl : N = k := by omega
      obtain ⟨S, hS⟩ : ∃ S, Hid (sortP (l.take N) = S) := ⟨_, rfl⟩
      have hSl : S.length = N := by rw [← hS.out, length_sort, List.length_take]; omega
      have HSA : Hid (Asc S) := by rw [← hS.out]; exact asc_sort _
      rw [hS.out] at hH
      have HH := Lib.hid hH
      have HBW := Lib.hid hBW
      have HSL := Lib.hid hSl
      have PK := pick_any t (N + 1)
      have q1 := pickS_nonneg (c := t) (n := (N : Int) + 1) (by omega)
      have q2 := pickS_lt (c := t) (n := (N : Int) + 1) (by omega)
      obtain ⟨K, hK⟩ : ∃ K : Nat, pickS t ((N : Int) + 1) = (K : Int) := ⟨(pickS t ((N : Int) + 1)).toNat, by omega⟩
      rw [hK] at PK q2
      have hKN : K ≤ N := by omega
      have PP := Lib.hid PK
      clear hH hBW hSl hs0 HB1 hlt hk PK q1 q2 hK
      go_upto_region 12 with (go_at_call 17; (with_reducible refine (PP.out _ ht0 ht1 (by omega) (by omega)).mono ?_); rintro e w6 ⟨rfl, rfl⟩)
      go_wp2_with fail
      go_loopw [10, 11] (fun o i wr => ∃ (k : Nat) (v vo : Value), o = vo ∧ i = .int .i64 k ∧ k ≤ K ∧ HpIs W.heap.size wr b v (S.drop k) ∧ wr.ownsRow W.heap.size 32 2 vo k (flat (S.take k)) ∧ Below W.heap.size W wr) (fun _ i _ => K - (intOf i).toNat)
      case atStart => exact ⟨0, _, _, rfl, rfl, by omega, HH.out, World.ownsRow_nil _ _ _ _, HBW.out⟩
      case round =>
        obtain ⟨k, v, vo, rfl, rfl, hk, hH, hR, hBW⟩ := hrel
        by_cases hlt : k < K
        · have hkl : k < S.length := by rw [HSL.out]; omega
          rw [drop_cons hkl] at hH
          have HFN := Lib.hid (flat_next hkl)
          obtain ⟨ao2, cap2, rfl⟩ := row_form hR
          have HH := Lib.hid hH
          have HR := Lib.hid hR
          have HBW := Lib.hid hBW
          clear hH hR hBW
          generalize at' S k = x at *
          obtain ⟨x1, x2⟩ := x
          dsimp only at HH HFN
          go_upto_region 18 with (go_at_call 11; (with_reducible refine (pop_head HH.out).mono ?_); rintro e w3 ⟨rfl, v3, g3, o3⟩)
          have HF := far HH.out HR.out
          have HR3 := Lib.hid (row_only HR.out o3 HF.1 HF.2)
          have HB3 := Lib.hid (HBW.out.trans (HH.out.stays o3))
          have HG3 := Lib.hid g3
          have hsz : W.heap.size ≤ w3.heap.size := by have := g3.at; omega
          clear HF g3 o3
          go_wp2_with (at_builtin; (refine wpList_append_lies _ rfl _ _ 22 rfl W.heap.size 32 i0 _ 2 16 Try.underlying22 hi0 hz0 hz1 hz2 rfl (by omega) _ k (flat (S.take k)) rfl (HR3.out.alloc _) ⟨w3.heap.size, 0, none⟩ 1 1 [.int .i64 x1, .int .i64 x2] rfl rfl (World.news_of_block (cs := #[.int .i64 x1, .int .i64 x2]) (t := 32) (fr := (0, 0)) (heap_alloc_new _ _)) (by simp [Value.oneCell']) (by omega) (by unfold maxLen; omega) (by omega) (by simp; omega) (w3.heap.size + 1) (by simp) ?_); intro g cp w4 hown hgrow hat hlt4; rw [HFN.out] at hown; have G4 := Lib.hid (grow_step HG3.out HR3.out hgrow HB3.out); have HO4 := Lib.hid hown; clear hown hgrow hat hlt4)
          go_roundw
          case rel => exact ⟨k + 1, v3, _, rfl, by go_num, hlt, G4.out.1, HO4.out, G4.out.2⟩
          case measure => simp [intOf]; omega
        · obtain rfl : K = k := by omega
          obtain ⟨ao2, cap2, rfl⟩ := row_form hR
          have HH := Lib.hid hH
          have HR := Lib.hid hR
          have HBW := Lib.hid hBW
          clear hH hR hBW hlt hk
          go_wp2_with fail
          go_loopw [15] (fun i wr => ∃ (j : Nat) (v : Value), i = .int .i64 ((j : Int) - 1) ∧ j ≤ K ∧ HpIs W.heap.size wr b v (S.drop j) ∧ wr.ownsRow W.heap.size 32 2 (.slice ao2 K cap2) K (flat (S.take K)) ∧ Below W.heap.size W wr) (fun i _ => (intOf i + 1).toNat)
          case atStart => exact ⟨K, v, rfl, by omega, HH.out, HR.out, HBW.out⟩
          case round =>
            obtain ⟨j, v, rfl, hj, hH, hR, hBW⟩ := hrel
            have hKS : (S.take K).length = K := by rw [List.length_take, HSL.out]; omega
            have HKS := Lib.hid hKS
            clear hKS
            rcases Nat.eq_zero_or_pos j with rfl | h0
            · rw [show (((0 : Nat) : Int) - 1) = -1 from rfl]
              have HH := Lib.hid hH
              have HR := Lib.hid hR
              have HBW := Lib.hid hBW
              clear hH hR hBW
              go_wp2_with fail
              go_loopw [16] (fun i wr => ∃ (k : Nat) (v : Value), i = .int .i64 k ∧ k ≤ K ∧ HpIs W.heap.size wr b v (S.drop k) ∧ wr.ownsRow W.heap.size 32 2 (.slice ao2 K cap2) K (flat (S.take K)) ∧ Below W.heap.size W wr) (fun i _ => K - (intOf i).toNat)
              case atStart => exact ⟨0, v, rfl, by omega, HH.out, HR.out, HBW.out⟩
              case round =>
                obtain ⟨k, v, rfl, hk, hH, hR, hBW⟩ := hrel
                by_cases hlt : k < K
                · have hkl : k < S.length := by rw [HSL.out]; omega
                  rw [drop_cons hkl] at hH
                  obtain ⟨g, cp, e0⟩ : ∃ g cp, Value.slice ao2 K cap2 = .slice (some ⟨g, 0, none⟩) K cp := by
                    rcases hR.2 with ⟨e, _⟩ | ⟨g, cp, cur, e, _⟩
                    · simp at e; omega
                    · exact ⟨g, cp, e⟩
                  simp only [Value.slice.injEq, true_and] at e0
                  obtain ⟨rfl, rfl⟩ := e0
                  have HH := Lib.hid hH
                  have HR := Lib.hid hR
                  have HBW := Lib.hid hBW
                  clear hH hR hBW
                  have hAT := at_take (l := S) hlt
                  generalize at' S k = x at *
                  obtain ⟨x1, x2⟩ := x
                  go_upto_region 27 with (go_at_call 11; (with_reducible refine (pop_head HH.out).mono ?_); rintro e w3 ⟨rfl, v3, g3, o3⟩)
                  have HF := far HH.out HR.out
                  have hR3 := row_only HR.out o3 HF.1 HF.2
                  obtain ⟨q1, q2⟩ := row_cell hR3 HKS.out hlt
                  rw [hAT] at q1 q2
                  dsimp only at q1 q2
                  have HR3 := Lib.hid hR3
                  have HB3 := Lib.hid (HBW.out.trans (HH.out.stays o3))
                  have HG3 := Lib.hid g3
                  clear HF g3 o3 hR3 hAT
                  go_wp2_with fail
                  go_roundw
                  case rel => exact ⟨k + 1, v3, by go_num, hlt, HG3.out, HR3.out, HB3.out⟩
                  case measure => simp [intOf]; omega
                · obtain rfl : K = k := by omega
                  have hlen : ((N : Int) - (K : Int)) = (((S.drop K).length : Nat) : Int) := by rw [List.length_drop, HSL.out]; omega
                  have HLEN := Lib.hid hlen
                  clear hlen
                  go_wp2_with (go_at_call 15; (with_reducible refine (len_at hH _ HLEN.out).mono ?_); rintro e w5 ⟨rfl, rfl⟩)
                  rw [← HQ.out]
                  exact ⟨rfl, hBW⟩
            · obtain ⟨m, rfl⟩ : ∃ m, j = m + 1 := ⟨j - 1, by omega⟩
              rw [show (((m + 1 : Nat) : Int) - 1) = (m : Int) by omega]
              have hmK : m < K := by omega
              have hIB := Lib.hid (ins_back HSA.out (show m < S.length by rw [HSL.out]; omega))
              have hsl : (S.drop (m + 1)).length ≤ 999 := by rw [List.length_drop, HSL.out]; omega
              obtain ⟨g, cp, e0⟩ : ∃ g cp, Value.slice ao2 K cap2 = .slice (some ⟨g, 0, none⟩) K cp := by
                rcases hR.2 with ⟨e, _⟩ | ⟨g, cp, cur, e, _⟩
                · simp at e; omega
                · exact ⟨g, cp, e⟩
              simp only [Value.slice.injEq, true_and] at e0
              obtain ⟨rfl, rfl⟩ := e0
              obtain ⟨q1, q2⟩ := row_cell hR HKS.out hmK
              rw [at_take hmK] at q1 q2
              have HH := Lib.hid hH
              have HR := Lib.hid hR
              have HBW := Lib.hid hBW
              clear hH hR hBW
              generalize at' S m = x at *
              obtain ⟨x1, x2⟩ := x
              dsimp only at q1 q2 hIB
              go_upto_region 22 with fail
              go_still_tail 11, (by kernel_rfl)
              change wpList _ _ _ _ _ wr.drew
              have HD : Hid (HpIs W.heap.size wr.drew b v (S.drop (m + 1))) := HH.out.below (Below.refl _ _).drew
              have HBD : Hid (Below W.heap.size W wr.drew) := HBW.out.drew
              have HRD : Hid (wr.drew.ownsRow W.heap.size 32 2 (.slice (some ⟨g, 0, none⟩) K cap2) K (flat (S.take K))) := HR.out
              clear HR q1 q2
              generalize wr.drew = wD at *
              go_wp2_with (go_at_call 13; (with_reducible refine (push_at HD.out hsl x1 x2 _ hIB.out).mono ?_); rintro e w3 ⟨rfl, v3, g3, o3⟩)
              have HF := far HD.out HRD.out
              have HR3 := Lib.hid (row_only HRD.out o3 HF.1 HF.2)
              go_roundw
              case rel => exact ⟨m, v3, rfl, by omega, g3, HR3.out, HBD.out.trans (HD.out.stays o3)⟩
              case measure => simp [intOf] <;> omega
end Go.Proofs.Ytcaehjflfpnenaa.Hp
