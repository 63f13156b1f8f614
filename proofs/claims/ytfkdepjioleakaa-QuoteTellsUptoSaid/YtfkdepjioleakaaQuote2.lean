/- Contracts of writeQuoted (every character) and Quote. -/
import Derived.Test.YtfkdepjioleakaaQuote
set_option linter.unusedVariables false
set_option linter.unusedSimpArgs false
namespace Go.Proofs.Ytfkdepjioleakaa
open Go.RowKit

set_option maxHeartbeats 1000000 in
theorem wq_low (B b : Nat) (acc : List UInt8) (r : Nat) (w : World) (h : IsB B b (Lib.byteCells acc) w) (hlen : acc.length + 6 ≤ 140737488355328) (hBw : B ≤ w.heap.size)
    (h0 : r < 32) (h1 : r ≠ 8) (h2 : r ≠ 9) (h3 : r ≠ 10) (h4 : r ≠ 12) (h5 : r ≠ 13) :
    Calls Try.prog 21 #[.pointer (some ⟨b, 0, none⟩), .int .i32 r] w (Wrote B b (acc ++ [92, 117, 48, 48, hexd (r / 16), hexd (r % 16)]) w) := by
  have hix : Lib.indexByte [8, 9, 10, 12, 13] (r : Int).toNat.toUInt8 = -1 := by
    have : ∀ r : Nat, r < 32 → (r = 8 ∨ r = 9 ∨ r = 10 ∨ r = 12 ∨ r = 13 ∨ Lib.indexByte [8, 9, 10, 12, 13] (r : Int).toNat.toUInt8 = -1) := by decide +kernel
    simpa [h1, h2, h3, h4, h5] using this r h0
  have IR := Lib.hid (fun w => Try.strings_IndexRune_ascii ⟨#[8, 9, 10, 12, 13]⟩ (r : Int) w (by omega) (by omega))
  rw [show (⟨#[8, 9, 10, 12, 13]⟩ : ByteArray).data.toList = [8, 9, 10, 12, 13] from rfl, hix] at IR
  clear hix
  have hA : (acc ++ [92, 117, 48, 48]).length + 2 ≤ 140737488355328 := by simp; omega
  have e1 : ∀ r : Nat, r < 32 → ∀ h : r / 16 < (⟨#[48, 49, 50, 51, 52, 53, 54, 55, 56, 57, 97, 98, 99, 100, 101, 102]⟩ : ByteArray).size, (⟨#[48, 49, 50, 51, 52, 53, 54, 55, 56, 57, 97, 98, 99, 100, 101, 102]⟩ : ByteArray)[r / 16] = hexd (r / 16) := fun r _ h => by
    unfold hexd; rw [List.getD_eq_getElem?_getD, List.getElem?_eq_getElem (by exact h)]; rfl
  have e2 : ∀ r : Nat, r < 32 → ∀ h : r % 16 < (⟨#[48, 49, 50, 51, 52, 53, 54, 55, 56, 57, 97, 98, 99, 100, 101, 102]⟩ : ByteArray).size, (⟨#[48, 49, 50, 51, 52, 53, 54, 55, 56, 57, 97, 98, 99, 100, 101, 102]⟩ : ByteArray)[r % 16] = hexd (r % 16) := fun r _ h => by
    unfold hexd; rw [List.getD_eq_getElem?_getD, List.getElem?_eq_getElem (by exact h)]; rfl
  have HE1 := Lib.hid e1
  have HE2 := Lib.hid e2
  clear e1 e2
  go_enter Try.func21, Try.ntmps21
  go_wp2_with (go_at_call 30; refine (IR.out _).mono ?_; rintro e w' ⟨rfl, rfl⟩)
  go_wp2_with (go_at_call 31; refine (writeString_any B b _ _ _ h (by rw [Lib.byteCells_length]; show acc.length + 4 ≤ _; omega) hBw).mono ?_; rintro e w1 ⟨rfl, hk1, hb1, hq1⟩)
  rw [cells_str] at hk1
  have hB1 : B ≤ w1.heap.size := by have := hb1.size; omega
  go_wp2_with (go_at_call 20; refine (writeByte_any B b _ _ _ (.inr hk1) (by rw [Lib.byteCells_length]; omega) hB1).mono ?_; rintro e w2 ⟨rfl, hk2, hb2, hq2⟩)
  rw [HE1.out r h0, cells_byte] at hk2
  have hB2 : B ≤ w2.heap.size := by have := hb2.size; omega
  go_wp2_with (go_at_call 20; refine (writeByte_any B b _ _ _ (.inr hk2) (by rw [Lib.byteCells_length, List.length_append]; simp at hA ⊢; omega) hB2).mono ?_; rintro e w3 ⟨rfl, hk3, hb3, hq3⟩)
  rw [HE2.out r h0, cells_byte] at hk3
  go_end0
  refine ⟨rfl, ?_, (hb1.trans hb2).trans hb3, (hq1.trans hq2).trans hq3⟩
  rw [show acc ++ [92, 117, 48, 48, hexd (r / 16), hexd (r % 16)] = acc ++ [92, 117, 48, 48] ++ [hexd (r / 16)] ++ [hexd (r % 16)] by simp]
  exact hk3

theorem wq_any (B b : Nat) (acc : List UInt8) (r : Nat) (w : World) (h : IsB B b (Lib.byteCells acc) w) (hlen : acc.length + 6 ≤ 140737488355328) (hBw : B ≤ w.heap.size) (hr : r ≤ 2147483647) :
    Calls Try.prog 21 #[.pointer (some ⟨b, 0, none⟩), .int .i32 r] w (Wrote B b (acc ++ qr r) w) := by
  unfold qr
  split
  · rename_i h1; subst h1; exact wq_mark B b acc 34 w h hlen hBw (.inl rfl)
  split
  · rename_i h1; subst h1; exact wq_mark B b acc 92 w h hlen hBw (.inr rfl)
  split
  · rename_i h1 h2 h3; exact wq_plain B b acc r w h hlen hBw h3 hr h1 h2
  split
  · rename_i h1; exact wq_letter B b acc r _ w h hlen hBw (by simp [h1])
  split
  · rename_i h1; exact wq_letter B b acc r _ w h hlen hBw (by simp [h1])
  split
  · rename_i h1; exact wq_letter B b acc r _ w h hlen hBw (by simp [h1])
  split
  · rename_i h1; exact wq_letter B b acc r _ w h hlen hBw (by simp [h1])
  split
  · rename_i h1; exact wq_letter B b acc r _ w h hlen hBw (by simp [h1])
  · rename_i h3 h4 h5 h6 h7 h8; exact wq_low B b acc r w h hlen hBw (by omega) h4 h5 h6 h7 h8

/-- Quote's answer. -/
def quoV (l : List UInt8) : Value := .tuple #[.string ⟨(if wholeB l = true then quoteL l else []).toArray⟩, .bool (wholeB l)]

set_option maxHeartbeats 1000000 in
theorem quote_no (s : ByteArray) (w : World) (hs : s.size ≤ 140737488355328) (h : wholeB s.data.toList = false) :
    Calls Try.prog 14 #[.string s] w (Ret (quoV s.data.toList) w) := by
  have hw := Lib.hid (fun w => whole_any s w hs)
  unfold quoV
  rw [h] at hw ⊢
  clear h
  go_enter Try.func14, Try.ntmps14
  go_wp2_with (go_at_call 17; refine (hw.out _).mono ?_; rintro e w1 ⟨rfl, hb1⟩)
  go_ret2
  exact ⟨rfl, hb1⟩

set_option maxHeartbeats 2000000 in
theorem quote_yes (s : ByteArray) (w : World) (hs : s.size ≤ 140737488355328) (hq : (qBody s.data.toList).length + 16 ≤ 140737488355328) (h : wholeB s.data.toList = true) :
    Calls Try.prog 14 #[.string s] w (Ret (quoV s.data.toList) w) := by
  have hw := Lib.hid (fun w => whole_any s w hs)
  have HWH := Lib.hid h
  unfold quoV
  rw [h] at hw ⊢
  rw [if_pos rfl]
  clear h
  go_enter Try.func14, Try.ntmps14
  go_wp2_with (go_at_call 17; refine (hw.out _).mono ?_; rintro e w1 ⟨rfl, hb1⟩)
  have hI0 : IsB w1.heap.size w1.heap.size (Lib.byteCells []) (w1.alloc (.cells #[.pointer none, .slice none 0 0] 44)) := Lib.IsBuilderF.of (Lib.fresh_isBuilder 44 5 w1)
  go_wp2_with (go_at_call 20; refine (writeByte_any w1.heap.size w1.heap.size _ _ _ hI0 (by rw [Lib.byteCells_length]; simp) (by simp)).mono ?_; rintro e w2 ⟨rfl, hk2, hb2, hq2⟩)
  have hk2' : IsB w1.heap.size w1.heap.size (Lib.byteCells [34]) w2 := .inr (by rw [show ([34] : List UInt8) = [] ++ [34] from rfl, ← cells_byte]; exact hk2)
  have hz2 : w1.heap.size + 1 ≤ w2.heap.size := by have := hb2.size; simpa using this
  have hbb2 : Below w1.heap.size w1 w2 := ((Below.refl _ w1).alloc (Nat.le_refl _) _).trans hb2
  clear hI0 hk2 hb2 hq2
  go_wp2_with fail
  go_loopw [] (fun wr => ∃ (pos : Nat) (acc : List UInt8), IsB w1.heap.size w1.heap.size (Lib.byteCells acc) wr ∧ wr.heap[w2.heap.size]? = some (.stringIter s pos) ∧ Below w1.heap.size w1 wr ∧ Hid (34 :: qBody s.data.toList = acc ++ qBody (s.data.toList.drop pos)) ∧ Hid (wholeB (s.data.toList.drop pos) = true) ∧ pos ≤ s.size) (fun wr => s.size - wr.iterPos w2.heap.size)
  case atStart =>
    refine ⟨0, [34], hk2'.alloc _, ?_, hbb2.alloc (by omega) _, by show _ = _; rw [List.drop_zero]; rfl, by show _ = _; rw [List.drop_zero]; exact HWH.out, by omega⟩
    have := World.iter_heap w2 s 0
    simpa using this
  case round =>
    obtain ⟨pos, acc, hI, hit, hbw, hacc, hwh, hps⟩ := hrel
    have hal : acc.length ≤ (qBody s.data.toList).length + 1 := by
      have := congrArg List.length hacc.out
      rw [List.length_cons, List.length_append] at this
      omega
    have hsz : w2.heap.size < wr.heap.size := (Array.getElem?_eq_some_iff.1 hit).1
    by_cases hp : pos < s.size
    · have hnx : ∀ ty, (Instr.next (.pointer (some ⟨w2.heap.size, 0, none⟩)) true ty).run Try.prog wr = _ := fun ty => Lib.run_next_any_at wr w2.heap.size s pos ty hit hp
      obtain ⟨hw1, hw2⟩ := decode_bounds s pos hp
      have hd1 := decode_le s pos
      have hI2 := hI.iterAt hit (pos + (Utf8.decode s pos).2)
      have hit2 := Lib.iterAt_heap wr w2.heap.size s pos (pos + (Utf8.decode s pos).2) hit
      have hbw2 := Lib.below_iterAt hbw (k := w2.heap.size) (by omega) s (pos + (Utf8.decode s pos).2)
      have hsz2 : w1.heap.size ≤ (wr.iterAt w2.heap.size s (pos + (Utf8.decode s pos).2)).heap.size := by rw [Lib.iterAt_size]; omega
      have hbad : badB (s.data.toList.drop pos) = false := by
        cases hb : badB (s.data.toList.drop pos) with
        | false => rfl
        | true => have := hwh.out; rw [wholeB_bad (drop_ne hp) hb] at this; cases this
      have hwide := hw2 hbad
      obtain ⟨g1, g2, g3, g4, g5⟩ := good_front (drop_ne hp) hbad
      have HW := Lib.hid (wholeB_good (drop_ne hp) hbad)
      have HQ := Lib.hid (qBody_step (drop_ne hp))
      rw [Lib.decodeL_drop, List.drop_drop] at HW HQ
      clear g1 g2 g3 g4 g5 hbad hw2
      go_wp2_with (go_at_call 21; refine (wq_any w1.heap.size w1.heap.size acc _ _ hI2 (by omega) hsz2 (by omega)).mono ?_; rintro e W1 ⟨rfl, h1, b1, k1⟩)
      go_roundw
      case rel =>
        refine ⟨pos + (Utf8.decode s pos).2, acc ++ qr (Utf8.decode s pos).1, .inr h1, k1.iter hit2 (by omega), hbw2.trans b1, ?_, ?_, by omega⟩
        · show _ = _
          rw [hacc.out, HQ.out, List.append_assoc]
        · show _ = _
          rw [← HW.out]; exact hwh.out
      case measure =>
        simp only [World.iterPos, k1.iter hit2 (by omega), hit]
        omega
    · have hnx : ∀ ty, (Instr.next (.pointer (some ⟨w2.heap.size, 0, none⟩)) true ty).run Try.prog wr = _ := fun ty => Lib.run_next_end_at wr w2.heap.size s pos ty hit hp
      have HQ := Lib.hid (show acc = 34 :: qBody s.data.toList by rw [hacc.out, drop_end hp, qBody_nil, List.append_nil])
      go_wp2_with (go_at_call 20; refine (writeByte_any w1.heap.size w1.heap.size _ _ _ hI (by rw [Lib.byteCells_length]; omega) (by omega)).mono ?_; rintro e w3 ⟨rfl, h3, b3, k3⟩)
      have h3' : IsB w1.heap.size w1.heap.size (Lib.byteCells (acc ++ [34])) w3 := .inr (by rw [← cells_byte]; exact h3)
      have hz3 : w1.heap.size ≤ w3.heap.size := by have := b3.size; omega
      go_wp2_with (go_at_call 22; refine (Try.Builder_String_any_k w1.heap.size w1.heap.size _ _ h3' hz3).mono ?_; rintro e w4 ⟨rfl, _, b4, _⟩)
      go_ret2
      refine ⟨?_, (hb1.trans (((hbw.trans b3).trans b4).mono hb1.size))⟩
      rw [HQ.out]
      rfl

theorem quote_any (s : ByteArray) (w : World) (hs : s.size ≤ 140737488355328) (hq : (qBody s.data.toList).length + 16 ≤ 140737488355328) : Calls Try.prog 14 #[.string s] w (Ret (quoV s.data.toList) w) := by
  cases h : wholeB s.data.toList with
  | true => exact quote_yes s w hs hq h
  | false => exact quote_no s w hs h
end Go.Proofs.Ytfkdepjioleakaa
