import Derived.Test.YtcaehjflfpnenaaHl
/- The law HeapLeast. -/
set_option linter.unusedVariables false
set_option linter.unusedSimpArgs false
namespace Go.Proofs.Ytcaehjflfpnenaa.Hp
open Go.RowKit

/-- How many entries a heap's cell tells. -/
def hpLen (w : World) (b : Nat) : Nat := match w.cell? ⟨b, 0, none⟩ with
  | some (.slice _ n _) => n
  | _ => 0
theorem HpIs.hpLen {base b : Nat} {w : World} {v : Value} {s : List Pr} (h : HpIs base w b v s) : hpLen w b = s.length := by
  obtain ⟨l, h1, h2, h3, h4⟩ := h
  obtain ⟨ao, cap, rfl⟩ := h1.form0
  unfold Hp.hpLen
  rw [h1.get, ← h3.length_eq]
def clampP (x : Pr) : Pr := (max x.1 (-4611686018427387904), x.2)
theorem at_map {l : List Pr} {k : Nat} (h : k < l.length) : at' (l.map clampP) k = clampP (at' l k) := by
  rw [at_lt (by simpa using h), at_lt h]
  simp
set_option maxHeartbeats 8000000 in
set_option maxRecDepth 100000 in
theorem lleast_walk (v : Value) (l : List Pr) (t : Int) (W : World) (hl : Fits W v l) (ht0 : -9223372036854775808 ≤ t) (ht1 : t ≤ 9223372036854775807) : Calls Try.prog 5 #[v, .int .i64 t] W (AwakeRet W) := by
  obtain ⟨⟨ao, cap, rfl, hbig, hcell⟩, -⟩ := hl
  obtain ⟨Q, HQ⟩ : ∃ Q, Hid (AwakeRet W = Q) := ⟨_, rfl⟩
  rw [HQ.out]
  have HC := Lib.hid hcell
  clear hcell ht0 ht1
  go_enter Try.func5, Try.ntmps5
  go_upto_region 5 with (first
    | (go_at_call 8; (with_reducible refine (awake_any W).mono ?_); rintro e w1 ⟨rfl, hb1⟩)
    | (go_at_call 9; (with_reducible refine (new_any w1).mono ?_); rintro e w2 ⟨rfl, rfl⟩))
  have hs0 := Lib.hid (new_is (base := W.heap.size) (w := w1) hb1.size)
  have HB1 := Lib.hid (hb1.alloc hb1.size (.cells #[.slice none 0 0] 42))
  generalize hb : w1.heap.size = b at *
  clear hb hb1
  generalize w1.alloc (.cells #[.slice none 0 0] 42) = w2 at *
  obtain ⟨N, hN⟩ : ∃ N : Nat, N = min l.length 100 := ⟨_, rfl⟩
  have hNl : N ≤ l.length := by omega
  have hN2 : N ≤ 100 := by omega
  have HNE : Hid (N = l.length ∨ N = 100) := (by omega : N = l.length ∨ N = 100)
  clear hN
  obtain ⟨M, hM⟩ : ∃ M, Hid (l.map clampP = M) := ⟨_, rfl⟩
  have HML : Hid (M.length = l.length) := by rw [← hM.out]; exact List.length_map _
  go_wp2_with fail
  go_loopw [7] (fun i wr => ∃ (k : Nat) (v : Value), i = .int .i64 k ∧ k ≤ N ∧ HpIs W.heap.size wr b v (sortP (M.take k)) ∧ Below W.heap.size W wr) (fun i _ => N - (intOf i).toNat)
  case atStart => exact ⟨0, _, rfl, by omega, hs0.out, HB1.out⟩
  case round =>
    obtain ⟨k, v, rfl, hk, hH, hBW⟩ := hrel
    by_cases hlt : k < N
    · obtain ⟨ab, o, rfl, hab, hcc⟩ := HC.out (by omega)
      have ⟨c1, c2⟩ := hcc k (by omega)
      have d1 := (hBW.cell (p := ⟨ab, o + k * 2, none⟩) hab).trans c1
      have d2 := (hBW.cell (p := ⟨ab, o + k * 2 + 1, none⟩) hab).trans c2
      have hkl : k < l.length := by omega
      have hk100 : k < 100 := by omega
      have hS := Lib.hid (ins_next (l := M) (k := k) (by rw [HML.out]; exact hkl))
      have hsl : (sortP (M.take k)).length ≤ 999 := by rw [length_sort, List.length_take]; omega
      rw [show at' M k = clampP (at' l k) by rw [← hM.out]; exact at_map hkl] at hS
      have HH := Lib.hid hH
      have HBW := Lib.hid hBW
      clear hH hBW c1 c2 hcc
      generalize hx : at' l k = x at *
      obtain ⟨x1, x2⟩ := x
      unfold clampP at hS
      dsimp only at *
      clear hx
      go_upto_region 8 with fail
      go_still_tail 12, (by kernel_rfl)
      change wpList _ _ _ _ _ wr.drew
      have HD : Hid (HpIs W.heap.size wr.drew b v (sortP (M.take k))) := HH.out.below (Below.refl _ _).drew
      have HBD : Hid (Below W.heap.size W wr.drew) := HBW.out.drew
      generalize wr.drew = wD at *
      rw [show (if x1 < -4611686018427387904 then (-4611686018427387904 : Int) else x1) = max x1 (-4611686018427387904) by split <;> omega]
      generalize max x1 (-4611686018427387904) = z at *
      go_wp2_with (go_at_call 13; (with_reducible refine (push_at HD.out hsl _ x2 _ hS.out).mono ?_); rintro e w3 ⟨rfl, v3, g3, o3⟩)
      go_roundw
      case rel => exact ⟨k + 1, v3, by go_num, hlt, g3, HBD.out.trans (HD.out.stays o3)⟩
      case measure => simp [intOf]; omega
    · obtain rfl : N = k := by omega
      obtain ⟨S, hS⟩ : ∃ S, Hid (sortP (M.take N) = S) := ⟨_, rfl⟩
      have hSl : S.length ≤ 100 := by rw [← hS.out, length_sort, List.length_take]; omega
      have HSA : Hid (Asc S) := by rw [← hS.out]; exact asc_sort _
      have HSG : Hid (∀ y ∈ S, -4611686018427387904 ≤ y.1) := by
        intro y hy
        rw [← hS.out, (perm_sort _).mem_iff] at hy
        have hy := List.mem_of_mem_take hy
        rw [← hM.out] at hy
        obtain ⟨x, _, rfl⟩ := List.mem_map.1 hy
        show _ ≤ max _ _
        omega
      have HIN := Lib.hid (ins_least (x := (-9223372036854775808, t)) (l := S) (fun y hy => by have := HSG.out y hy; rw [LeP_iff]; dsimp only; omega))
      rw [hS.out] at hH
      have HH := Lib.hid hH
      have HBW := Lib.hid hBW
      clear hH hBW hs0 HB1 hlt hk
      have hout : decide (N < l.length) = false ∨ (decide (N < l.length) = true ∧ decide ((N : Int) < 100) = false) := by
        rcases HNE.out with h | h
        · left; simp; omega
        · rcases Nat.lt_or_ge N l.length with h2 | h2
          · right; exact ⟨by simpa using h2, by simp; omega⟩
          · left; simp; omega
      have hs999 : S.length ≤ 999 := by omega
      rcases hout with hA | ⟨hA, hB⟩
      all_goals
        go_upto_region 13 with (first
          | (go_at_call 13; (with_reducible refine (push_at HH.out hs999 (-9223372036854775808) t _ HIN.out).mono ?_); rintro e w3 ⟨rfl, v3, g3, o3⟩; have HG3 := Lib.hid g3; have HO3 := Lib.hid o3; clear g3 o3)
          | (go_at_call 11; (with_reducible refine (pop_head HG3.out).mono ?_); rintro e w4 ⟨rfl, v4, g4, o4⟩; have HG4 := Lib.hid g4; have HO4 := Lib.hid o4; clear g4 o4))
        have HB4 := Lib.hid ((HBW.out.trans (HH.out.stays HO3.out)).trans (HG3.out.stays HO4.out))
        go_wp2_with fail
        go_loopw [11] (fun last wr => ∃ (q : Int) (T : List Pr) (v : Value), last = .int .i64 q ∧ HpIs W.heap.size wr b v T ∧ Hid (∀ y ∈ T, q ≤ y.1) ∧ Below W.heap.size W wr) (fun _ wr => hpLen wr b)
        case atStart => exact ⟨_, S, v4, rfl, HG4.out, fun y hy => by have := HSG.out y hy; omega, HB4.out⟩
        case round =>
          obtain ⟨q, T, vq, rfl, hH, hq, hBW⟩ := hrel
          have HH := Lib.hid hH
          have HBW := Lib.hid hBW
          have hml := Lib.hid hH.hpLen
          clear hH hBW
          cases T with
          | nil =>
            go_wp2_with (go_at_call 15; (with_reducible refine (len_at HH.out 0 (by simp)).mono ?_); rintro e w5 ⟨rfl, rfl⟩)
            rw [← HQ.out]
            exact ⟨rfl, HBW.out⟩
          | cons y r =>
            have hy := hq.out y (List.mem_cons_self ..)
            have hr : Hid (∀ z ∈ r, y.1 ≤ z.1) := by
              intro z hz
              obtain ⟨_, _, _, _, ha⟩ := HH.out
              have := (List.pairwise_cons.1 ha).1 z hz
              rw [LeP_iff] at this
              omega
            have hln : (0 : Int) < ((r.length + 1 : Nat) : Int) := by omega
            obtain ⟨y1, y2⟩ := y
            dsimp only at hy hr
            have hyq : decide (y1 < q) = false := by simp; omega
            clear hy
            go_wp2_with (first
              | (go_at_call 15; (with_reducible refine (len_any HH.out).mono ?_); rintro e w5 ⟨rfl, rfl⟩)
              | (go_at_call 11; (with_reducible refine (pop_head HH.out).mono ?_); rintro e w6 ⟨rfl, v6, g6, o6⟩; have HG6 := Lib.hid g6; have HO6 := Lib.hid o6; clear g6 o6))
            go_roundw
            case rel => exact ⟨y1, r, v6, rfl, HG6.out, hr, HBW.out.trans (HH.out.stays HO6.out)⟩
            case measure => rw [HG6.out.hpLen, hml.out]; simp
end Go.Proofs.Ytcaehjflfpnenaa.Hp
