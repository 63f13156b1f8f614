import Derived.Test.YtoioidafnedneaaDoorRTok
import Derived.Test.YtoioidafnedneaaDoorScan
/- The contract of the document's Scan (humpyardref03): it is scanS. -/
set_option linter.unusedVariables false
set_option linter.unusedSimpArgs false
namespace Go.Proofs.YtoioidafnedneaaDoor.Lex
open Go.RowKit

theorem blank_z (c : UInt8) : (blankB c = true ∧ ((c.toNat : Int) = 32 ∨ (c.toNat : Int) = 9 ∨ (c.toNat : Int) = 10 ∨ (c.toNat : Int) = 13)) ∨
    (blankB c = false ∧ ((c.toNat : Int) == 32) = false ∧ ((c.toNat : Int) == 9) = false ∧ ((c.toNat : Int) == 10) = false ∧ ((c.toNat : Int) == 13) = false) := by
  cases h : blankB c with
  | true =>
    refine .inl ⟨rfl, ?_⟩
    simp only [blankB, List.contains_eq_mem, decide_eq_true_eq, List.mem_cons, List.not_mem_nil, or_false] at h
    rcases h with rfl | rfl | rfl | rfl <;> decide
  | false =>
    refine .inr ⟨rfl, ?_⟩
    have k : ∀ n : Nat, n < 256 → blankB (UInt8.ofNat n) = true → ((c.toNat : Int) == (n : Int)) = false := fun n hn hb => by
      by_cases e : c.toNat = n
      · rw [← u8_eq hn e, h] at hb; cases hb
      · simp; omega
    exact ⟨k 32 (by omega) (by decide), k 9 (by omega) (by decide), k 10 (by omega) (by decide), k 13 (by omega) (by decide)⟩

theorem rscan_long (s : ByteArray) (w : World) (hs : 20000 < s.size) (hm : s.size ≤ maxLen) : Calls Tryd.prog 9 #[.string s] w (ScanRet (.inl 0) w) := by
  unfold maxLen at hm
  go_enter Tryd.func9, Tryd.ntmps9
  go_wp2
  go_ret3
  exact ⟨_, rfl, ToksOwn.nil _ _, Below.refl _ _⟩

set_option maxHeartbeats 2000000 in
theorem rscan_short (s : ByteArray) (w : World) (hs : s.size ≤ 20000) : Calls Tryd.prog 9 #[.string s] w (ScanRet (scanL s.data.toList 0) w) := by
  obtain ⟨R, HR⟩ : ∃ R, Hid (scanL s.data.toList 0 = R) := ⟨_, rfl⟩
  rw [HR.out]
  have ht : decide ((20000 : Int) < (s.size : Int)) = false := decide_eq_false (by omega)
  have hs' : s.size ≤ 1000000 := by omega
  have HS := Lib.hid hs
  clear hs
  go_enter Tryd.func9, Tryd.ntmps9
  go_wp2_with fail
  go_loopw [5, 6] (fun toks i wr => ∃ (k : Nat) (acc : List Tok), k ≤ s.size ∧ i = .int .i64 k ∧ ToksOwn wr w.heap.size toks acc ∧ Below w.heap.size w wr ∧ acc.length ≤ k ∧
      Hid (R = combR acc (scanL (s.data.toList.drop k) k))) (fun _ i _ => s.size - (intOf i).toNat)
  case atStart => exact ⟨0, [], Nat.zero_le _, rfl, ToksOwn.nil _ _, Below.refl _ _, Nat.zero_le _, by show _ = _; rw [combR_nil]; exact HR.out.symm⟩
  case round =>
    obtain ⟨k, acc, hk, rfl, hown, hbw, hla, HK⟩ := hrel
    clear HR
    have hsz := hbw.size
    by_cases hlt : k < s.size
    · have hx : ∀ u : World, (Instr.index 9 (.string s) (.int .i64 k)).run Tryd.prog u = .ok (.int .u8 s[k].toNat) u := Quo.run_byte s k hlt s[k].toNat rfl
      have HD := Lib.hid (drop_at hlt)
      have F := Lib.hid (fun w => rtoken_any s k w hs' hlt)
      generalize hc : s[k] = c at *
      clear hc
      rcases blank_z c with ⟨hbl, hz⟩ | ⟨hbl, q1, q2, q3, q4⟩
      · have HN : Hid (R = combR acc (scanL (s.data.toList.drop (k + 1)) (k + 1))) := by
          show _ = _
          rw [HK.out, HD.out, scanL_blank hbl]
        clear HK HD F hbl
        generalize (c.toNat : Int) = z at *
        rcases hz with rfl | rfl | rfl | rfl
        all_goals
          go_wp2_with fail
          go_roundw
          case rel => exact ⟨k + 1, acc, by omega, by go_num, hown, hbw, by omega, HN⟩
          case measure => simp [intOf]; omega
      · have hne : s.data.toList.drop k ≠ [] := by rw [HD.out]; simp
        have hnb : blankB ((s.data.toList.drop k).getD 0 0) = false := by rw [HD.out]; exact hbl
        have hfl := firstL_le (s.data.toList.drop k)
        rw [List.length_drop, sz] at hfl
        have hfk := first_kind (l := s.data.toList.drop k)
        obtain ⟨⟨⟨K, T, M, E, Q⟩, n⟩, HF⟩ : ∃ r, Hid (firstL (s.data.toList.drop k) = r) := ⟨_, rfl⟩
        rw [HF.out] at F hfl hfk
        simp only at hfl hfk
        by_cases h0 : n = 0
        · subst h0
          have hr : R = .inl k := by rw [HK.out, scanL_bad hne hnb (by rw [HF.out])]; rfl
          subst hr
          unfold atR at F
          generalize (if (({ k := K, t := T, m := M, e := E, p := Q } : Tok), 0).1.k = 0 then tok0 else (({ k := K, t := T, m := M, e := E, p := Q } : Tok), 0).1.at_ k) = X at F
          obtain ⟨K', T', M', E', Q'⟩ := X
          unfold firV tokV at F
          clear HK HF hne hnb HD hbl
          generalize (c.toNat : Int) = z at *
          go_wp2_with (go_at_call 19; (with_reducible refine (F.out _).mono ?_); rintro e1 w1 ⟨rfl, hb⟩)
          go_ret3
          exact ⟨_, rfl, ToksOwn.nil _ _, (hbw.trans (hb.mono hbw.size)).alloc (Nat.le_trans hbw.size hb.size) _⟩
        · have b0 : ((n : Int) == 0) = false := by simp; omega
          have hX : atR (⟨K, T, M, E, Q⟩, n) k = (⟨K, T, M, E, k⟩, n) := by
            unfold atR; rw [if_neg (hfk h0)]; rfl
          rw [hX] at F
          unfold firV tokV at F
          have HR2 : Hid (R = combR (acc ++ [⟨K, T, M, E, k⟩]) (scanL (s.data.toList.drop (k + n)) (k + n))) := by
            show _ = _
            rw [HK.out, scanL_tok hne hnb (by rw [HF.out]; exact h0), HF.out, combR_cons]
            simp only [List.drop_drop, Tok.at_]
          clear hX hfk HK HF hne hnb HD hbl
          generalize (c.toNat : Int) = z at *
          go_wp2_with (first | (go_at_call 19; (with_reducible refine (F.out _).mono ?_); rintro e1 w1 ⟨rfl, hb⟩) | (at_builtin; have hsz1 := hb.size; (refine append_tok rfl _ _ rfl w.heap.size _ acc rfl (ToksOwn.below hown ((hb.alloc hb.size _).alloc (by simp; omega) _) (Nat.le_refl _)) _ _ rfl ⟨K, T, M, E, k⟩ (two_new _ _ _) (by omega) (by simp; omega) ?_); intro v' w2 hown2 hb2))
          have hbb : Below w.heap.size w w2 := ((hbw.trans (hb.mono hsz)).alloc (by omega) _ |>.alloc (by simp; omega) _).trans hb2
          go_roundw
          case rel => exact ⟨k + n, acc ++ [⟨K, T, M, E, k⟩], by omega, by go_num, hown2, hbb, by simp; omega, HR2⟩
          case measure => simp [intOf]; omega
    · have hr : R = .inr (acc ++ [⟨5, [], 0, 0, k⟩]) := by rw [HK.out, drop_end hlt, scanL_nil]; rfl
      subst hr
      clear HK
      go_wp2_with (at_builtin; refine append_tok rfl _ _ rfl w.heap.size _ acc rfl (hown.alloc _) _ _ rfl ⟨5, [], 0, 0, k⟩ (heap_alloc_new wr _) (by omega) (by simp; omega) ?_; intro v' w2 hown2 hb2)
      go_ret3
      exact ⟨_, rfl, hown2, (hbw.alloc hsz _).trans hb2⟩

theorem rscan_any (s : ByteArray) (w : World) (hm : s.size ≤ maxLen) : Calls Tryd.prog 9 #[.string s] w (ScanRet (scanS s.data.toList) w) := by
  unfold scanS
  rw [sz]
  by_cases h : 20000 < s.size
  · rw [if_pos h]; exact rscan_long s w h hm
  · rw [if_neg h]; exact rscan_short s w (by omega)
end Go.Proofs.YtoioidafnedneaaDoor.Lex
