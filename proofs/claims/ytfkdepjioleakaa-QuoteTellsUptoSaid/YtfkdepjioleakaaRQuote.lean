/- The contract of Quote of the document's answer. -/
import Derived.Test.YtfkdepjioleakaaREsc3
import Derived.Lib.BufferRead
set_option linter.unusedVariables false
set_option linter.unusedSimpArgs false
namespace Go.Proofs.Ytfkdepjioleakaa
open Go.RowKit

/-- A byte of a whole text as it stands in a JSON string. -/
def qb (c : UInt8) : List UInt8 :=
  if c = 34 then [92, 34] else if c = 92 then [92, 92] else if c = 8 then [92, 98] else if c = 9 then [92, 116] else if c = 10 then [92, 110] else if c = 12 then [92, 102] else if c = 13 then [92, 114]
  else if c.toNat < 32 then [92, 117, 48, 48, hexd (c.toNat / 16), hexd (c.toNat % 16)] else [c]
theorem qb_high {c : UInt8} (h : 93 ≤ c.toNat) : qb c = [c] := by
  have ne : ∀ n : UInt8, n.toNat < 93 → c ≠ n := fun n hn e => by subst e; omega
  unfold qb
  rw [if_neg (ne 34 (by decide)), if_neg (ne 92 (by decide)), if_neg (ne 8 (by decide)), if_neg (ne 9 (by decide)), if_neg (ne 10 (by decide)), if_neg (ne 12 (by decide)), if_neg (ne 13 (by decide)), if_neg (by omega)]
theorem flatMap_self (l : List UInt8) (h : ∀ c ∈ l, 93 ≤ c.toNat) : l.flatMap qb = l := by
  induction l with
  | nil => rfl
  | cons c r ih => rw [List.flatMap_cons, qb_high (h c (by simp)), ih fun x hx => h x (by simp [hx])]; rfl
theorem enc_bytes_high {r : Nat} (h : 128 ≤ r) : ∀ c ∈ enc r, 128 ≤ c.toNat := by
  intro c hc
  obtain ⟨j, hj, rfl⟩ := List.getElem_of_mem hc
  by_cases hj0 : j = 0
  · subst hj0
    unfold enc Lib.encodeRune Lib.encodeRuneZ at *
    repeat' split
    all_goals simp
    all_goals omega
  · have := enc_high (r := r) j (by omega) hj
    rw [List.getD_eq_getElem?_getD, List.getElem?_eq_getElem hj] at this
    simpa using this
theorem qb_enc {r : Nat} (h : vr r) : (enc r).flatMap qb = qr r := by
  by_cases h1 : r < 128
  · have : ∀ r : Nat, r < 128 → (enc r).flatMap qb = qr r := by decide +kernel
    exact this r h1
  · rw [flatMap_self _ fun c hc => by have := enc_bytes_high (r := r) (by omega) c hc; omega]
    unfold qr
    rw [if_neg (by omega), if_neg (by omega), if_pos (by omega)]
theorem qb_body {l : List UInt8} (h : wholeB l = true) : l.flatMap qb = qBody l := by
  obtain ⟨rs, hrs, rfl⟩ := whole_flat h
  rw [qBody_flat' hrs]
  unfold flat bodyQ
  rw [List.flatMap_assoc]
  induction rs with
  | nil => rfl
  | cons r rs ih =>
    rw [List.flatMap_cons, List.flatMap_cons, qb_enc (hrs r (by simp)), ih (fun x hx => hrs x (by simp [hx])) (wholeB_flat' fun x hx => hrs x (by simp [hx]))]
theorem qb_len (c : UInt8) : (qb c).length ≤ 6 ∧ 1 ≤ (qb c).length := by
  unfold qb
  repeat' split
  all_goals simp
theorem qb_step {s : ByteArray} {k : Nat} (h : k < s.size) : (s.data.toList.drop k).flatMap qb = qb s[k] ++ (s.data.toList.drop (k + 1)).flatMap qb := by
  have hk : k < s.data.toList.length := by rw [sz]; exact h
  rw [List.drop_eq_getElem_cons hk, List.flatMap_cons]
  rfl
/-- An owned row of bytes, turned to a string. -/
theorem run_conv_own {w : World} {B : Nat} {v : Value} {l : List UInt8} (h : w.ownsRowF B 5 1 v l.length (Lib.byteCells l)) :
    (convert 36 9 v).run Try.prog w = .ok (.string ⟨l.toArray⟩) w := by
  rcases h.2 with ⟨rfl, h0⟩ | ⟨g, cap, cur, fz, rfl, _, hg, _, hn, _, hcs, htk⟩
  · rw [List.length_eq_zero_iff.1 h0]
    exact Lib.run_convert_nil_bytes w 36 9 5 0 Try.underlying36 Try.underlying5 Try.underlying9
  · refine run_convert_bytes_back (P := Try.prog) w 36 9 5 ⟨g, 0, none⟩ cap l Try.underlying36 Try.underlying5 Try.underlying9 (fun j hj => ?_)
    have e : cur[j]? = some (.int .u8 (l[j].toNat : Int)) := by
      have h1 := congrArg (fun x => x[j]?) htk
      simp only [List.getElem?_take, Lib.byteCells, List.getElem?_map, List.getElem?_eq_getElem hj, Option.map_some] at h1
      rw [if_pos (by omega)] at h1
      simpa using h1
    rw [show (⟨g, 0, none⟩ : Addr).add j = ⟨g, j, none⟩ by simp [Addr.add]; omega, Lib.cell_of_heap hg]
    exact e
theorem own_first (w : World) (c : UInt8) : (w.alloc (.cells #[.int .u8 (c.toNat : Int)] 5)).ownsRowF w.heap.size 5 1 (.slice (some ⟨w.heap.size, 0, none⟩) 1 1) 1 (Lib.byteCells [c]) :=
  ⟨rfl, .inr ⟨w.heap.size, 1, #[.int .u8 (c.toNat : Int)], (0, 0), rfl, Nat.le_refl _, heap_alloc_new w _, by simp, by omega, by decide, rfl, rfl⟩⟩
theorem cells_more (acc m : List UInt8) : Lib.byteCells acc ++ Lib.byteCells m = Lib.byteCells (acc ++ m) := (Lib.byteCells_append acc m).symm

set_option maxHeartbeats 2000000 in
theorem rquote_no (s : ByteArray) (w : World) (hs : s.size ≤ 140737488355328) (h : wholeB s.data.toList = false) :
    Calls Try.prog 12 #[.string s] w (Ret (quoV s.data.toList) w) := by
  have hw := Lib.hid (fun w => rwhole_any s w hs)
  unfold quoV
  rw [h] at hw ⊢
  clear h
  go_enter Try.func12, Try.ntmps12
  go_wp2_with (go_at_call 18; (with_reducible refine (hw.out _).mono ?_); rintro e w1 ⟨rfl, rfl⟩)
  go_ret2
  exact ⟨rfl, Below.refl _ _⟩

set_option maxHeartbeats 4000000 in
set_option maxRecDepth 100000 in
theorem rquote_yes (s : ByteArray) (w : World) (hs : s.size ≤ 10000000) (h : wholeB s.data.toList = true) :
    Calls Try.prog 12 #[.string s] w (Ret (quoV s.data.toList) w) := by
  obtain ⟨i0, hi, hz0, hz1, hz2⟩ := info_parts infoByte
  have hw := Lib.hid (fun w => rwhole_any s w (by omega))
  have HQ := Lib.hid (qb_body h)
  unfold quoV
  rw [h] at hw ⊢
  rw [if_pos rfl]
  clear h
  go_enter Try.func12, Try.ntmps12
  go_wp2_with (go_at_call 18; (with_reducible refine (hw.out _).mono ?_); rintro e w1 ⟨rfl, rfl⟩)
  have hF := own_first w 34
  have hB0 : Below w.heap.size w (w.alloc (.cells #[.int .u8 34] 5)) := (Below.refl _ w).alloc (Nat.le_refl _) _
  go_loopw [5, 6] (fun ov iv wr => ∃ (k : Nat) (acc : List UInt8), k ≤ s.size ∧ iv = .int .i64 k ∧ wr.ownsRowF w.heap.size 5 1 ov acc.length (Lib.byteCells acc) ∧ Below w.heap.size w wr ∧ Hid (34 :: s.data.toList.flatMap qb = acc ++ (s.data.toList.drop k).flatMap qb) ∧ acc.length ≤ 1 + 6 * k) (fun _ iv _ => s.size - (intOf iv).toNat)
  case atStart => exact ⟨0, [34], by omega, rfl, hF, hB0, by show _ = _; rw [List.drop_zero]; rfl, by simp⟩
  case round =>
    obtain ⟨k, acc, hk, rfl, hown, hbw, hacc, hal⟩ := hrel
    clear hF hB0
    by_cases hlt : k < s.size
    · have HA := Lib.hid (hacc.out.trans (by rw [qb_step hlt]))
      clear hacc
      have hxb : ∀ c, s[k].toNat = c → ∀ u : World, (Instr.index 9 (.string s) (.int .i64 (k : Int))).run Try.prog u = .ok (.int .u8 c) u := fun c hc u => run_byte s k hlt c hc u
      have HX := Lib.hid hxb
      clear hxb
      generalize s[k] = c at *
      by_cases h34 : c = 34
      · subst h34
        have hx : ∀ u : World, (Instr.index 9 (.string s) (.int .i64 (k : Int))).run Try.prog u = .ok (.int .u8 34) u := HX.out 34 rfl
        rw [show qb 34 = [92, 34] by decide +kernel] at HA
        go_wp2_with (at_builtin; refine wpList_append_ownF _ rfl _ _ 36 rfl w.heap.size 5 i0 (.int .u8 0) 1 1 Try.underlying36 hi hz0 hz1 hz2 rfl (by decide) _ _ _ rfl (hown.alloc _) ⟨wr.heap.size, 0, none⟩ 2 2 (Lib.byteCells [92, 34]) rfl rfl ?c1 ?c2 ?c3 ?c4 ?c5 ?_)
        case c1 =>
          intro j u hj
          have hjl : j = 0 ∨ j = 1 := by
            have := (List.getElem?_eq_some_iff.1 hj).1
            rw [Lib.byteCells_length] at this
            simp at this
            omega
          rcases hjl with rfl | rfl
          all_goals (simp [Lib.byteCells] at hj; subst hj; simp [Addr.add])
        case c2 =>
          intro u hu
          obtain ⟨x, _, rfl⟩ := List.mem_map.1 hu
          rfl
        case c3 => unfold maxLen; omega
        case c4 => omega
        case c5 => have := hbw.size; simp; omega
        intro v' w2 hown' hgrow _
        rw [cells_more] at hown'
        have hbw2 : Below w.heap.size w w2 := (hbw.alloc hbw.size _).grown hgrow (by have := hbw.size; simp; omega) (fun k hk => (hown.lt k hk).1)
        go_wp2_with fail
        go_roundw
        case rel => exact ⟨k + 1, acc ++ [92, 34], by omega, by go_num, by rw [List.length_append]; exact hown', hbw2, by show _ = _; rw [HA.out, List.append_assoc], by rw [List.length_append]; simp; omega⟩
        case measure => simp [intOf]; omega
      by_cases h92 : c = 92
      · subst h92
        have hx : ∀ u : World, (Instr.index 9 (.string s) (.int .i64 (k : Int))).run Try.prog u = .ok (.int .u8 92) u := HX.out 92 rfl
        rw [show qb 92 = [92, 92] by decide +kernel] at HA
        go_wp2_with (at_builtin; refine wpList_append_ownF _ rfl _ _ 36 rfl w.heap.size 5 i0 (.int .u8 0) 1 1 Try.underlying36 hi hz0 hz1 hz2 rfl (by decide) _ _ _ rfl (hown.alloc _) ⟨wr.heap.size, 0, none⟩ 2 2 (Lib.byteCells [92, 92]) rfl rfl ?c1 ?c2 ?c3 ?c4 ?c5 ?_)
        case c1 =>
          intro j u hj
          have hjl : j = 0 ∨ j = 1 := by
            have := (List.getElem?_eq_some_iff.1 hj).1
            rw [Lib.byteCells_length] at this
            simp at this
            omega
          rcases hjl with rfl | rfl
          all_goals (simp [Lib.byteCells] at hj; subst hj; simp [Addr.add])
        case c2 =>
          intro u hu
          obtain ⟨x, _, rfl⟩ := List.mem_map.1 hu
          rfl
        case c3 => unfold maxLen; omega
        case c4 => omega
        case c5 => have := hbw.size; simp; omega
        intro v' w2 hown' hgrow _
        rw [cells_more] at hown'
        have hbw2 : Below w.heap.size w w2 := (hbw.alloc hbw.size _).grown hgrow (by have := hbw.size; simp; omega) (fun k hk => (hown.lt k hk).1)
        go_wp2_with fail
        go_roundw
        case rel => exact ⟨k + 1, acc ++ [92, 92], by omega, by go_num, by rw [List.length_append]; exact hown', hbw2, by show _ = _; rw [HA.out, List.append_assoc], by rw [List.length_append]; simp; omega⟩
        case measure => simp [intOf]; omega
      by_cases h8 : c = 8
      · subst h8
        have hx : ∀ u : World, (Instr.index 9 (.string s) (.int .i64 (k : Int))).run Try.prog u = .ok (.int .u8 8) u := HX.out 8 rfl
        rw [show qb 8 = [92, 98] by decide +kernel] at HA
        go_wp2_with (at_builtin; refine wpList_append_ownF _ rfl _ _ 36 rfl w.heap.size 5 i0 (.int .u8 0) 1 1 Try.underlying36 hi hz0 hz1 hz2 rfl (by decide) _ _ _ rfl (hown.alloc _) ⟨wr.heap.size, 0, none⟩ 2 2 (Lib.byteCells [92, 98]) rfl rfl ?c1 ?c2 ?c3 ?c4 ?c5 ?_)
        case c1 =>
          intro j u hj
          have hjl : j = 0 ∨ j = 1 := by
            have := (List.getElem?_eq_some_iff.1 hj).1
            rw [Lib.byteCells_length] at this
            simp at this
            omega
          rcases hjl with rfl | rfl
          all_goals (simp [Lib.byteCells] at hj; subst hj; simp [Addr.add])
        case c2 =>
          intro u hu
          obtain ⟨x, _, rfl⟩ := List.mem_map.1 hu
          rfl
        case c3 => unfold maxLen; omega
        case c4 => omega
        case c5 => have := hbw.size; simp; omega
        intro v' w2 hown' hgrow _
        rw [cells_more] at hown'
        have hbw2 : Below w.heap.size w w2 := (hbw.alloc hbw.size _).grown hgrow (by have := hbw.size; simp; omega) (fun k hk => (hown.lt k hk).1)
        go_wp2_with fail
        go_roundw
        case rel => exact ⟨k + 1, acc ++ [92, 98], by omega, by go_num, by rw [List.length_append]; exact hown', hbw2, by show _ = _; rw [HA.out, List.append_assoc], by rw [List.length_append]; simp; omega⟩
        case measure => simp [intOf]; omega
      by_cases h9 : c = 9
      · subst h9
        have hx : ∀ u : World, (Instr.index 9 (.string s) (.int .i64 (k : Int))).run Try.prog u = .ok (.int .u8 9) u := HX.out 9 rfl
        rw [show qb 9 = [92, 116] by decide +kernel] at HA
        go_wp2_with (at_builtin; refine wpList_append_ownF _ rfl _ _ 36 rfl w.heap.size 5 i0 (.int .u8 0) 1 1 Try.underlying36 hi hz0 hz1 hz2 rfl (by decide) _ _ _ rfl (hown.alloc _) ⟨wr.heap.size, 0, none⟩ 2 2 (Lib.byteCells [92, 116]) rfl rfl ?c1 ?c2 ?c3 ?c4 ?c5 ?_)
        case c1 =>
          intro j u hj
          have hjl : j = 0 ∨ j = 1 := by
            have := (List.getElem?_eq_some_iff.1 hj).1
            rw [Lib.byteCells_length] at this
            simp at this
            omega
          rcases hjl with rfl | rfl
          all_goals (simp [Lib.byteCells] at hj; subst hj; simp [Addr.add])
        case c2 =>
          intro u hu
          obtain ⟨x, _, rfl⟩ := List.mem_map.1 hu
          rfl
        case c3 => unfold maxLen; omega
        case c4 => omega
        case c5 => have := hbw.size; simp; omega
        intro v' w2 hown' hgrow _
        rw [cells_more] at hown'
        have hbw2 : Below w.heap.size w w2 := (hbw.alloc hbw.size _).grown hgrow (by have := hbw.size; simp; omega) (fun k hk => (hown.lt k hk).1)
        go_wp2_with fail
        go_roundw
        case rel => exact ⟨k + 1, acc ++ [92, 116], by omega, by go_num, by rw [List.length_append]; exact hown', hbw2, by show _ = _; rw [HA.out, List.append_assoc], by rw [List.length_append]; simp; omega⟩
        case measure => simp [intOf]; omega
      by_cases h10 : c = 10
      · subst h10
        have hx : ∀ u : World, (Instr.index 9 (.string s) (.int .i64 (k : Int))).run Try.prog u = .ok (.int .u8 10) u := HX.out 10 rfl
        rw [show qb 10 = [92, 110] by decide +kernel] at HA
        go_wp2_with (at_builtin; refine wpList_append_ownF _ rfl _ _ 36 rfl w.heap.size 5 i0 (.int .u8 0) 1 1 Try.underlying36 hi hz0 hz1 hz2 rfl (by decide) _ _ _ rfl (hown.alloc _) ⟨wr.heap.size, 0, none⟩ 2 2 (Lib.byteCells [92, 110]) rfl rfl ?c1 ?c2 ?c3 ?c4 ?c5 ?_)
        case c1 =>
          intro j u hj
          have hjl : j = 0 ∨ j = 1 := by
            have := (List.getElem?_eq_some_iff.1 hj).1
            rw [Lib.byteCells_length] at this
            simp at this
            omega
          rcases hjl with rfl | rfl
          all_goals (simp [Lib.byteCells] at hj; subst hj; simp [Addr.add])
        case c2 =>
          intro u hu
          obtain ⟨x, _, rfl⟩ := List.mem_map.1 hu
          rfl
        case c3 => unfold maxLen; omega
        case c4 => omega
        case c5 => have := hbw.size; simp; omega
        intro v' w2 hown' hgrow _
        rw [cells_more] at hown'
        have hbw2 : Below w.heap.size w w2 := (hbw.alloc hbw.size _).grown hgrow (by have := hbw.size; simp; omega) (fun k hk => (hown.lt k hk).1)
        go_wp2_with fail
        go_roundw
        case rel => exact ⟨k + 1, acc ++ [92, 110], by omega, by go_num, by rw [List.length_append]; exact hown', hbw2, by show _ = _; rw [HA.out, List.append_assoc], by rw [List.length_append]; simp; omega⟩
        case measure => simp [intOf]; omega
      by_cases h12 : c = 12
      · subst h12
        have hx : ∀ u : World, (Instr.index 9 (.string s) (.int .i64 (k : Int))).run Try.prog u = .ok (.int .u8 12) u := HX.out 12 rfl
        rw [show qb 12 = [92, 102] by decide +kernel] at HA
        go_wp2_with (at_builtin; refine wpList_append_ownF _ rfl _ _ 36 rfl w.heap.size 5 i0 (.int .u8 0) 1 1 Try.underlying36 hi hz0 hz1 hz2 rfl (by decide) _ _ _ rfl (hown.alloc _) ⟨wr.heap.size, 0, none⟩ 2 2 (Lib.byteCells [92, 102]) rfl rfl ?c1 ?c2 ?c3 ?c4 ?c5 ?_)
        case c1 =>
          intro j u hj
          have hjl : j = 0 ∨ j = 1 := by
            have := (List.getElem?_eq_some_iff.1 hj).1
            rw [Lib.byteCells_length] at this
            simp at this
            omega
          rcases hjl with rfl | rfl
          all_goals (simp [Lib.byteCells] at hj; subst hj; simp [Addr.add])
        case c2 =>
          intro u hu
          obtain ⟨x, _, rfl⟩ := List.mem_map.1 hu
          rfl
        case c3 => unfold maxLen; omega
        case c4 => omega
        case c5 => have := hbw.size; simp; omega
        intro v' w2 hown' hgrow _
        rw [cells_more] at hown'
        have hbw2 : Below w.heap.size w w2 := (hbw.alloc hbw.size _).grown hgrow (by have := hbw.size; simp; omega) (fun k hk => (hown.lt k hk).1)
        go_wp2_with fail
        go_roundw
        case rel => exact ⟨k + 1, acc ++ [92, 102], by omega, by go_num, by rw [List.length_append]; exact hown', hbw2, by show _ = _; rw [HA.out, List.append_assoc], by rw [List.length_append]; simp; omega⟩
        case measure => simp [intOf]; omega
      by_cases h13 : c = 13
      · subst h13
        have hx : ∀ u : World, (Instr.index 9 (.string s) (.int .i64 (k : Int))).run Try.prog u = .ok (.int .u8 13) u := HX.out 13 rfl
        rw [show qb 13 = [92, 114] by decide +kernel] at HA
        go_wp2_with (at_builtin; refine wpList_append_ownF _ rfl _ _ 36 rfl w.heap.size 5 i0 (.int .u8 0) 1 1 Try.underlying36 hi hz0 hz1 hz2 rfl (by decide) _ _ _ rfl (hown.alloc _) ⟨wr.heap.size, 0, none⟩ 2 2 (Lib.byteCells [92, 114]) rfl rfl ?c1 ?c2 ?c3 ?c4 ?c5 ?_)
        case c1 =>
          intro j u hj
          have hjl : j = 0 ∨ j = 1 := by
            have := (List.getElem?_eq_some_iff.1 hj).1
            rw [Lib.byteCells_length] at this
            simp at this
            omega
          rcases hjl with rfl | rfl
          all_goals (simp [Lib.byteCells] at hj; subst hj; simp [Addr.add])
        case c2 =>
          intro u hu
          obtain ⟨x, _, rfl⟩ := List.mem_map.1 hu
          rfl
        case c3 => unfold maxLen; omega
        case c4 => omega
        case c5 => have := hbw.size; simp; omega
        intro v' w2 hown' hgrow _
        rw [cells_more] at hown'
        have hbw2 : Below w.heap.size w w2 := (hbw.alloc hbw.size _).grown hgrow (by have := hbw.size; simp; omega) (fun k hk => (hown.lt k hk).1)
        go_wp2_with fail
        go_roundw
        case rel => exact ⟨k + 1, acc ++ [92, 114], by omega, by go_num, by rw [List.length_append]; exact hown', hbw2, by show _ = _; rw [HA.out, List.append_assoc], by rw [List.length_append]; simp; omega⟩
        case measure => simp [intOf]; omega
      have k34 : ((c.toNat : Int) == 34) = false := u8_ne 34 (by decide) h34
      have k92 : ((c.toNat : Int) == 92) = false := u8_ne 92 (by decide) h92
      have k8 : ((c.toNat : Int) == 8) = false := u8_ne 8 (by decide) h8
      have k9 : ((c.toNat : Int) == 9) = false := u8_ne 9 (by decide) h9
      have k10 : ((c.toNat : Int) == 10) = false := u8_ne 10 (by decide) h10
      have k12 : ((c.toNat : Int) == 12) = false := u8_ne 12 (by decide) h12
      have k13 : ((c.toNat : Int) == 13) = false := u8_ne 13 (by decide) h13
      have hx := HX.out c.toNat rfl
      have hc256 := c.toNat_lt
      have hqb : qb c = if c.toNat < 32 then [92, 117, 48, 48, hexd (c.toNat / 16), hexd (c.toNat % 16)] else [c] := by
        unfold qb
        rw [if_neg h34, if_neg h92, if_neg h8, if_neg h9, if_neg h10, if_neg h12, if_neg h13]
      rw [hqb] at HA
      clear hqb h34 h92 h8 h9 h10 h12 h13 HX
      by_cases hlow : c.toNat < 32
      · rw [if_pos hlow] at HA
        have RH1 := Lib.hid (fun u => rhex_any (c.toNat / 16) u (by omega))
        rw [show c.toNat / 16 % 16 = c.toNat / 16 by omega, show ((c.toNat / 16 : Nat) : Int) = (c.toNat : Int) / 16 by omega] at RH1
        have RH2 := Lib.hid (fun u => rhex_any c.toNat u (by omega))
        go_wp2_with (first
                    | (go_at_call 19; (with_reducible refine (RH1.out _).mono ?_); rintro e w1 ⟨rfl, rfl⟩)
                    | (go_at_call 19; (with_reducible refine (RH2.out _).mono ?_); rintro e w1 ⟨rfl, rfl⟩)
                    | (at_builtin; refine wpList_append_ownF _ rfl _ _ 36 rfl w.heap.size 5 i0 (.int .u8 0) 1 1 Try.underlying36 hi hz0 hz1 hz2 rfl (by decide) _ _ _ rfl (hown.alloc _) ⟨wr.heap.size, 0, none⟩ 6 6 (Lib.byteCells [92, 117, 48, 48, hexd (c.toNat / 16), hexd (c.toNat % 16)]) rfl rfl ?c1 ?c2 ?c3 ?c4 ?c5 ?_))
        case c1 =>
          intro j u hj
          have hjl : j = 0 ∨ j = 1 ∨ j = 2 ∨ j = 3 ∨ j = 4 ∨ j = 5 := by
            have := (List.getElem?_eq_some_iff.1 hj).1
            rw [Lib.byteCells_length] at this
            simp at this
            omega
          rcases hjl with rfl | rfl | rfl | rfl | rfl | rfl
          all_goals (simp [Lib.byteCells] at hj; subst hj; simp [Addr.add])
        case c2 =>
          intro u hu
          obtain ⟨x, _, rfl⟩ := List.mem_map.1 hu
          rfl
        case c3 => unfold maxLen; omega
        case c4 => omega
        case c5 => have := hbw.size; simp; omega
        intro v' w2 hown' hgrow _
        rw [cells_more] at hown'
        have hbw2 : Below w.heap.size w w2 := (hbw.alloc hbw.size _).grown hgrow (by have := hbw.size; simp; omega) (fun k hk => (hown.lt k hk).1)
        go_wp2_with fail
        go_roundw
        case rel => exact ⟨k + 1, acc ++ [92, 117, 48, 48, hexd (c.toNat / 16), hexd (c.toNat % 16)], by omega, by go_num, by rw [List.length_append]; exact hown', hbw2, by show _ = _; rw [HA.out, List.append_assoc], by rw [List.length_append]; simp; omega⟩
        case measure => simp [intOf]; omega
      · rw [if_neg hlow] at HA
        have hd : decide ((c.toNat : Int) < 32) = false := decide_eq_false (by omega)
        go_wp2_with (at_builtin; refine wpList_append_ownF _ rfl _ _ 36 rfl w.heap.size 5 i0 (.int .u8 0) 1 1 Try.underlying36 hi hz0 hz1 hz2 rfl (by decide) _ _ _ rfl (hown.alloc _) ⟨wr.heap.size, 0, none⟩ 1 1 (Lib.byteCells [c]) rfl rfl ?c1 ?c2 ?c3 ?c4 ?c5 ?_)
        case c1 =>
          intro j u hj
          have hjl : j = 0 := by
            have := (List.getElem?_eq_some_iff.1 hj).1
            rw [Lib.byteCells_length] at this
            simp at this
            omega
          rcases hjl with rfl
          all_goals (simp [Lib.byteCells] at hj; subst hj; simp [Addr.add])
        case c2 =>
          intro u hu
          obtain ⟨x, _, rfl⟩ := List.mem_map.1 hu
          rfl
        case c3 => unfold maxLen; omega
        case c4 => omega
        case c5 => have := hbw.size; simp; omega
        intro v' w2 hown' hgrow _
        rw [cells_more] at hown'
        have hbw2 : Below w.heap.size w w2 := (hbw.alloc hbw.size _).grown hgrow (by have := hbw.size; simp; omega) (fun k hk => (hown.lt k hk).1)
        go_wp2_with fail
        go_roundw
        case rel => exact ⟨k + 1, acc ++ [c], by omega, by go_num, by rw [List.length_append]; exact hown', hbw2, by show _ = _; rw [HA.out, List.append_assoc], by rw [List.length_append]; simp; omega⟩
        case measure => simp [intOf]; omega
    · have HA : Hid (acc = 34 :: s.data.toList.flatMap qb) := by
        show _ = _
        rw [hacc.out, drop_end hlt]
        simp
      clear hacc
      go_wp2_with (at_builtin; refine wpList_append_ownF _ rfl _ _ 36 rfl w.heap.size 5 i0 (.int .u8 0) 1 1 Try.underlying36 hi hz0 hz1 hz2 rfl (by decide) _ _ _ rfl (hown.alloc _) ⟨wr.heap.size, 0, none⟩ 1 1 (Lib.byteCells [34]) rfl rfl ?c1 ?c2 ?c3 ?c4 ?c5 ?_)
      case c1 =>
        intro j u hj
        have hjl : j = 0 := by
          have := (List.getElem?_eq_some_iff.1 hj).1
          rw [Lib.byteCells_length] at this
          simp at this
          omega
        rcases hjl with rfl
        simp [Lib.byteCells] at hj
        subst hj
        simp [Addr.add]
      case c2 =>
        intro u hu
        obtain ⟨x, _, rfl⟩ := List.mem_map.1 hu
        rfl
      case c3 => unfold maxLen; omega
      case c4 => omega
      case c5 => have := hbw.size; simp; omega
      intro v' w2 hown' hgrow _
      rw [cells_more] at hown'
      have hbw2 : Below w.heap.size w w2 := (hbw.alloc hbw.size _).grown hgrow (by have := hbw.size; simp; omega) (fun k hk => (hown.lt k hk).1)
      have hcv := run_conv_own (l := acc ++ [34]) (by rw [List.length_append]; exact hown')
      go_wp2_with fail
      go_ret2
      refine ⟨?_, hbw2⟩
      rw [HA.out, HQ.out]
      rfl
theorem rquote_any (s : ByteArray) (w : World) (hs : s.size ≤ 10000000) : Calls Try.prog 12 #[.string s] w (Ret (quoV s.data.toList) w) := by
  cases h : wholeB s.data.toList with
  | true => exact rquote_yes s w hs h
  | false => exact rquote_no s w (by omega) h
end Go.Proofs.Ytfkdepjioleakaa
