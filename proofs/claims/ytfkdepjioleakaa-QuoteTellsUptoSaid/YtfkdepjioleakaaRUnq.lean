/- The contract of Unquote of the document's answer. -/
import Derived.Test.YtfkdepjioleakaaRQuote
import Derived.Laws.DeepStrings4
set_option linter.unusedVariables false
set_option linter.unusedSimpArgs false
namespace Go.Proofs.Ytfkdepjioleakaa
open Go.RowKit

theorem escL_ge2 {l : List UInt8} (h : (escL l).2 ≠ 0) : 2 ≤ (escL l).2 := by
  have hn : (numL l).2 ≠ 0 → 2 ≤ (numL l).2 := fun h => by
    unfold numL at h ⊢
    repeat' split at h
    all_goals simp_all
  unfold escL at h ⊢
  repeat' split
  all_goals first | exact Nat.le_refl _ | skip
  all_goals simp_all
theorem take_cells (s : ByteArray) (k n : Nat) : Lib.strCells (s.extract k (k + n)) = Lib.byteCells ((s.data.toList.drop k).take n) := by
  have e : (s.extract k (k + n)).data.toList = (s.data.toList.drop k).take n := by
    rw [ByteArray.data_extract, Array.toList_extract]
    simp only [List.extract]
    congr 1
    omega
  show Lib.byteCells (s.extract k (k + n)).data.toList = _
  rw [e]
theorem extract_size (s : ByteArray) (k n : Nat) (h : k + n ≤ s.size) : (s.extract k (k + n)).size = n := by
  rw [ByteArray.size_extract]; omega
/-- What stands at a place of a text: as its first byte tells. -/
theorem dec_byte {l : List UInt8} (h : (l.getD 0 0).toNat < 128) : (Lib.decodeL l).1 = (l.getD 0 0).toNat := by rw [dec_first h]
theorem dec_other {l : List UInt8} (h : 128 ≤ (l.getD 0 0).toNat) : 128 ≤ (Lib.decodeL l).1 := by
  by_cases hh : (Lib.decodeL l).1 < 128
  · have := (dec_head hh).1; omega
  · omega

set_option maxHeartbeats 1000000 in
theorem runq_no (s : ByteArray) (w : World) (hs : s.size ≤ 10000000) (h : s.size < 2 ∨ Lib.hasPrefix s.data.toList [34] = false) :
    Calls Try.prog 16 #[.string s] w (Ret (unqV (unqS s.data.toList)) w) := by
  have HE : Hid (unqS s.data.toList = ([], 0, false)) := by
    show _ = _
    rcases h with h | h
    · have hl : s.data.toList.length < 2 := by rw [sz]; exact h
      generalize s.data.toList = l at *
      match l, hl with
      | [], _ => rfl
      | [a], _ =>
        unfold unqS
        split
        · rw [List.drop_succ_cons, List.drop_zero, unqB_nil]
        · rfl
    · unfold unqS; rw [if_neg (by rw [h]; simp)]
  rw [HE.out]
  unfold unqV
  by_cases h2 : s.size < 2
  · clear h
    go_enter Try.func16, Try.ntmps16
    go_wp2_with fail
    go_ret3
    exact ⟨rfl, Below.refl _ _⟩
  · have hp := h.resolve_left h2
    have hne : s[0].toNat ≠ 34 := fun e => by
      have hb : s.data.toList.getD 0 0 = 34 := by rw [← byte_getD s 0 (by omega)]; exact UInt8.toNat_inj.1 (by rw [e]; rfl)
      have hl : 0 < s.data.toList.length := by rw [sz]; omega
      generalize s.data.toList = l at *
      match l, hl with
      | a :: r, _ =>
        simp at hb
        subst hb
        simp [Lib.hasPrefix, List.isPrefixOf] at hp
    obtain ⟨c, hc⟩ : ∃ c, s[0].toNat = c := ⟨_, rfl⟩
    have hx : ∀ u : World, (Instr.index 9 (.string s) (.int .i64 0)).run Try.prog u = .ok (.int .u8 c) u := fun u => run_byte s 0 (by omega) c hc u
    rw [hc] at hne
    have k1 : ((c : Int) != 34) = true := by simp; omega
    clear h hp hc hne
    go_enter Try.func16, Try.ntmps16
    go_wp2_with fail
    go_ret3
    exact ⟨rfl, Below.refl _ _⟩

set_option maxHeartbeats 4000000 in
set_option maxRecDepth 100000 in
theorem runq_yes (s : ByteArray) (w : World) (hs : s.size ≤ 10000000) (h2 : 2 ≤ s.size) (h : Lib.hasPrefix s.data.toList [34] = true) :
    Calls Try.prog 16 #[.string s] w (Ret (unqV (unqS s.data.toList)) w) := by
  obtain ⟨i0, hi, hz0, hz1, hz2⟩ := info_parts infoByte
  have HS := Lib.hid (unqS_comb h)
  have hx0 : ∀ u : World, (Instr.index 9 (.string s) (.int .i64 0)).run Try.prog u = .ok (.int .u8 34) u := fun u => by
    refine run_byte s 0 (by omega) 34 ?_ u
    rw [byte_getD s 0 (by omega)]
    obtain ⟨t, ht⟩ := List.isPrefixOf_iff_prefix.1 (show [34].isPrefixOf s.data.toList = true from h)
    rw [← ht]; rfl
  clear h
  generalize unqS s.data.toList = R at *
  go_enter Try.func16, Try.ntmps16
  go_wp2_with fail
  go_loopw [5, 6] (fun ov iv wr => ∃ (k : Nat) (acc : List UInt8), 1 ≤ k ∧ k ≤ s.size ∧ iv = .int .i64 k ∧ wr.ownsRowF w.heap.size 5 1 ov acc.length (Lib.byteCells acc) ∧ Below w.heap.size w wr ∧ Hid (R = comb acc k (unqB (s.data.toList.drop k))) ∧ acc.length ≤ k) (fun _ iv _ => s.size - (intOf iv).toNat)
  case atStart => exact ⟨1, [], by omega, by omega, rfl, ⟨rfl, .inl ⟨rfl, rfl⟩⟩, Below.refl _ _, HS.out, by simp⟩
  case round =>
    obtain ⟨k, acc, hk1, hk, rfl, hown, hbw, hacc, hal⟩ := hrel
    clear hx0 HS
    by_cases hlt : k < s.size
    · obtain ⟨b, hbe⟩ : ∃ b, s[k].toNat = b := ⟨_, rfl⟩
      have hb256 : b < 256 := by rw [← hbe]; exact s[k].toNat_lt
      have hx : ∀ u : World, (Instr.index 9 (.string s) (.int .i64 (k : Int))).run Try.prog u = .ok (.int .u8 b) u := fun u => run_byte s k hlt b hbe u
      have hne := drop_ne hlt
      have hg : ((s.data.toList.drop k).getD 0 0).toNat = b := by rw [Lib.getD_dropU, Nat.add_zero, ← byte_getD s k hlt]; exact hbe
      by_cases h34 : b = 34
      · subst h34
        have HE : Hid (R = (acc, k + 1, true)) := by
          show _ = _
          rw [hacc.out, unqB_end hne (by rw [dec_byte (by omega), hg])]
          simp [comb]
        have hcv := run_conv_own hown
        clear hacc hne hg hbe
        go_wp2_with fail
        go_ret3
        exact ⟨by rw [HE.out]; exact three rfl (by simp) rfl, hbw⟩
      have k34 : ((b : Int) == 34) = false := by simp; omega
      by_cases hlow : b < 32
      · have HE : Hid (R = ([], 0, false)) := by
          show _ = _
          have hd := dec_byte (l := s.data.toList.drop k) (by omega)
          rw [hg] at hd
          rw [hacc.out, unqB_low hne (by rw [hd]; omega) (by rw [hd]; omega) (.inl (by rw [hd]; omega))]
          rfl
        clear hacc hne hg hbe
        go_wp2_with fail
        go_ret3
        exact ⟨by rw [HE.out]; rfl, hbw⟩
      have klow : decide ((b : Int) < 32) = false := decide_eq_false (by omega)
      by_cases h92 : b = 92
      · subst h92
        have e92 : s[k] = 92 := UInt8.toNat_inj.1 (by rw [hbe]; rfl)
        have RE := Lib.hid (fun u => resc_any s k u (by omega) hlt e92)
        have hd : (Lib.decodeL (s.data.toList.drop k)).1 = 92 := by rw [dec_byte (by omega), hg]
        by_cases hz : (escL (s.data.toList.drop k)).2 = 0
        · have HE : Hid (R = ([], 0, false)) := by
            show _ = _
            rw [hacc.out, unqB_esc0 hne hd hz]
            rfl
          have RN : Hid (∀ u, Calls Try.prog 27 #[.string s, .int .i64 ((k : Int) + 1)] u fun e w' => e = .returned (.tuple #[.slice none 0 0, .int .i64 0]) ∧ w' = u) := fun u => (RE.out u).mono fun e w' he => by
            rcases he with ⟨_, h1, h2⟩ | ⟨h1, _⟩
            · exact ⟨h1, h2⟩
            · exact absurd hz h1
          clear hacc hne hg hbe e92 RE hd hz
          go_wp2_with (go_at_call 27; (with_reducible refine (RN.out _).mono ?_); rintro e w' ⟨rfl, rfl⟩)
          go_ret3
          exact ⟨by rw [HE.out]; rfl, hbw⟩
        · obtain ⟨f1, f2, f3, f4⟩ := escL_facts (l := s.data.toList.drop k) (by omega) hz
          have f5 := escL_ge2 hz
          have HE : Hid (R = comb (acc ++ enc (escL (s.data.toList.drop k)).1) (k + (escL (s.data.toList.drop k)).2) (unqB (s.data.toList.drop (k + (escL (s.data.toList.drop k)).2)))) := by
            show _ = _
            rw [hacc.out, unqB_esc hne hd hz, comb_map, List.drop_drop]
          have RN : Hid (∀ u : World, Calls Try.prog 27 #[.string s, .int .i64 ((k : Int) + 1)] u fun e w' => e = .returned (.tuple #[.slice (some ⟨u.heap.size, 0, none⟩) (enc (escL (s.data.toList.drop k)).1).length (enc (escL (s.data.toList.drop k)).1).length, .int .i64 (((escL (s.data.toList.drop k)).2 : Int) - 1)]) ∧ w' = u.alloc (.cells (Lib.byteCells (enc (escL (s.data.toList.drop k)).1)).toArray 5)) := fun u => (RE.out u).mono fun e w' he => by
            rcases he with ⟨h1, _⟩ | ⟨_, h1, h2⟩
            · exact absurd h1 hz
            · exact ⟨h1, h2⟩
          have hlen := (enc_len (escL (s.data.toList.drop k)).1).2
          rw [List.length_drop, sz] at f2
          generalize enc (escL (s.data.toList.drop k)).1 = E at *
          generalize (escL (s.data.toList.drop k)).2 = n at *
          have kz : (((n : Int) - 1) == 0) = false := by simp; omega
          clear hacc hne hg hbe e92 RE hd hz f1 f3
          go_wp2_with (first
            | (go_at_call 27; (with_reducible refine (RN.out _).mono ?_); rintro e w' ⟨rfl, rfl⟩)
            | (at_builtin; refine wpList_append_ownF _ rfl _ _ 36 rfl w.heap.size 5 i0 (.int .u8 0) 1 1 Try.underlying36 hi hz0 hz1 hz2 rfl (by decide) _ _ _ rfl (hown.alloc _) ⟨wr.heap.size, 0, none⟩ E.length E.length (Lib.byteCells E) rfl ?c0 ?c1 ?c2 ?c3 ?c4 ?c5 ?_))
          case c0 => rw [Lib.byteCells_length]; omega
          case c1 =>
            intro j u hj
            rw [show (⟨wr.heap.size, 0, none⟩ : Addr).add j = ⟨wr.heap.size, j, none⟩ by simp [Addr.add]; omega, Lib.cell_of_heap (heap_alloc_new wr _)]
            simpa using hj
          case c2 =>
            intro u hu
            obtain ⟨x, _, rfl⟩ := List.mem_map.1 hu
            rfl
          case c3 => unfold maxLen; omega
          case c4 => omega
          case c5 => have := hbw.size; simp; omega
          intro v' w2 hown' hgrow _
          rw [cells_more] at hown'
          have hbw2 : Below w.heap.size w w2 := (hbw.alloc hbw.size _).grown hgrow (by have := hbw.size; simp; omega) (fun k hk => (hown.lt k hk).1)
          go_wp2_with fail
          go_roundw
          case rel => exact ⟨k + n, acc ++ E, by omega, by omega, by go_num, by rw [List.length_append]; exact hown', hbw2, HE.out, by rw [List.length_append]; omega⟩
          case measure => simp [intOf]; omega
      have k92 : ((b : Int) == 92) = false := by simp; omega
      have RO := Lib.hid (fun u => rone_any s k u (by omega) hlt)
      have hr : (Lib.decodeL (s.data.toList.drop k)).1 ≠ 34 ∧ (Lib.decodeL (s.data.toList.drop k)).1 ≠ 92 ∧ 32 ≤ (Lib.decodeL (s.data.toList.drop k)).1 := by
        by_cases hb : b < 128
        · rw [dec_byte (by omega), hg]; omega
        · have := dec_other (l := s.data.toList.drop k) (by omega)
          omega
      cases hbd : badB (s.data.toList.drop k) with
      | true =>
        have HE : Hid (R = ([], 0, false)) := by
          show _ = _
          rw [hacc.out, unqB_low hne hr.1 hr.2.1 (.inr hbd)]
          rfl
        rw [(oneL_zero hne).2 hbd] at RO
        clear hacc hne hg hbe hr hbd
        go_wp2_with (go_at_call 28; (with_reducible refine (RO.out _).mono ?_); rintro e w' ⟨rfl, rfl⟩)
        go_ret3
        exact ⟨by rw [HE.out]; rfl, hbw⟩
      | false =>
        obtain ⟨g1, g2, g3, g4, g5⟩ := good_front hne hbd
        have HT : Hid (enc (Lib.decodeL (s.data.toList.drop k)).1 = (s.data.toList.drop k).take (Lib.decodeL (s.data.toList.drop k)).2) := by
          show _ = _
          have := congrArg (List.take (Lib.decodeL (s.data.toList.drop k)).2) g3
          rw [List.take_append_of_le_length (by omega), List.take_of_length_le (l := enc _) (by omega)] at this
          exact this.symm
        have HE : Hid (R = comb (acc ++ enc (Lib.decodeL (s.data.toList.drop k)).1) (k + (Lib.decodeL (s.data.toList.drop k)).2) (unqB (s.data.toList.drop (k + (Lib.decodeL (s.data.toList.drop k)).2)))) := by
          show _ = _
          rw [hacc.out, unqB_plain hne hr.1 hr.2.1 hr.2.2 hbd, comb_map, List.drop_drop]
        rw [oneL_pos hbd] at RO
        rw [HT.out] at HE
        rw [List.length_drop, sz] at g5
        generalize (Lib.decodeL (s.data.toList.drop k)).2 = n at *
        have HC := Lib.hid (take_cells s k n)
        have hsx := extract_size s k n (by omega)
        have htl : ((s.data.toList.drop k).take n).length = n := by rw [List.length_take, List.length_drop, sz]; omega
        have kz : ((n : Int) == 0) = false := by simp; omega
        generalize (s.data.toList.drop k).take n = E at *
        clear hacc hne hg hbe hr hbd g1 g2 g3 HT
        have HSX := Lib.hid hsx
        have HTL := Lib.hid htl
        clear hsx htl
        go_wp2_with (first
          | (go_at_call 28; (with_reducible refine (RO.out _).mono ?_); rintro e w' ⟨rfl, rfl⟩)
          | (at_builtin; refine Lib.wpList_append_own_stringF _ rfl _ _ 36 9 rfl w.heap.size 5 i0 Try.underlying36 Try.underlying9 hi hz0 hz1 hz2 _ _ _ rfl hown (s.extract k (k + n)) rfl ?c3 ?c4 ?c5 ?_))
        case c3 => rw [HSX.out]; unfold maxLen; omega
        case c4 => rw [HSX.out]; omega
        case c5 => exact hbw.size
        intro v' w2 hown' hgrow _
        have hm : min (k + n) s.size - k = n := by omega
        rw [HC.out, cells_more, hm] at hown'
        clear hm
        have hbw2 : Below w.heap.size w w2 := hbw.grown hgrow hbw.size (fun k hk => (hown.lt k hk).1)
        go_wp2_with fail
        go_roundw
        case rel => exact ⟨k + n, acc ++ E, by omega, by omega, by go_num, by rw [List.length_append, HTL.out]; exact hown', hbw2, HE.out, by have := HTL.out; rw [List.length_append]; omega⟩
        case measure => simp [intOf]; omega
    · have HE : Hid (R = ([], 0, false)) := by
        show _ = _
        rw [hacc.out, drop_end hlt, unqB_nil]; rfl
      clear hacc
      go_wp2_with fail
      go_ret3
      exact ⟨by rw [HE.out]; rfl, hbw⟩

theorem runq_any (s : ByteArray) (w : World) (hs : s.size ≤ 10000000) : Calls Try.prog 16 #[.string s] w (Ret (unqV (unqS s.data.toList)) w) := by
  by_cases h2 : s.size < 2
  · exact runq_no s w hs (.inl h2)
  · cases h : Lib.hasPrefix s.data.toList [34] with
    | false => exact runq_no s w hs (.inr h)
    | true => exact runq_yes s w hs (by omega) h
end Go.Proofs.Ytfkdepjioleakaa
