/- Contracts of writeQuoted and Quote. -/
import Derived.Test.YtfkdepjioleakaaBase
set_option linter.unusedVariables false
set_option linter.unusedSimpArgs false
namespace Go.Proofs.Ytfkdepjioleakaa
open Go.RowKit

theorem cells_byte (acc : List UInt8) (c : UInt8) : Lib.byteCells acc ++ [.int .u8 c.toNat] = Lib.byteCells (acc ++ [c]) := by
  rw [Lib.byteCells_append]; rfl
theorem cells_rune (acc : List UInt8) (r : Nat) : Lib.byteCells acc ++ Lib.runeCells r = Lib.byteCells (acc ++ enc r) := by
  rw [Lib.byteCells_append]; unfold enc; rw [Lib.byteCells_encodeRune]
theorem cells_str (acc : List UInt8) (s : ByteArray) : Lib.byteCells acc ++ Lib.strCells s = Lib.byteCells (acc ++ s.data.toList) := by
  rw [Lib.byteCells_append]; rfl

/-- What writeQuoted leaves: a builder that holds more bytes. -/
def Wrote (B b : Nat) (acc : List UInt8) (w : World) (e : Ending) (w' : World) : Prop :=
  e = .returned (.tuple #[]) ∧ BAt B b (Lib.byteCells acc) w' ∧ Below B w w' ∧ Kept b w w'

set_option maxHeartbeats 1000000 in
theorem wq_plain (B b : Nat) (acc : List UInt8) (r : Nat) (w : World) (h : IsB B b (Lib.byteCells acc) w) (hlen : acc.length + 6 ≤ 140737488355328) (hBw : B ≤ w.heap.size)
    (h0 : 32 ≤ r) (h1 : r ≤ 2147483647) (h2 : r ≠ 34) (h3 : r ≠ 92) :
    Calls Try.prog 21 #[.pointer (some ⟨b, 0, none⟩), .int .i32 r] w (Wrote B b (acc ++ enc r) w) := by
  have k2 : ((r : Int) == 34) = false := by simp; omega
  have k3 : ((r : Int) == 92) = false := by simp; omega
  have hl : (Lib.byteCells acc).length + 4 ≤ 140737488355328 := by rw [Lib.byteCells_length]; omega
  go_enter Try.func21, Try.ntmps21
  go_wp2_with (go_at_call 25; refine (writeRune_any B b _ r (by omega) (by omega) _ h hl hBw).mono ?_; rintro e w1 ⟨rfl, hk1, hb1, hq1⟩)
  all_goals go_end0
  all_goals exact ⟨rfl, by rw [← cells_rune]; exact hk1, hb1, hq1⟩

set_option maxHeartbeats 1000000 in
theorem wq_mark (B b : Nat) (acc : List UInt8) (r : Nat) (w : World) (h : IsB B b (Lib.byteCells acc) w) (hlen : acc.length + 6 ≤ 140737488355328) (hBw : B ≤ w.heap.size)
    (h2 : r = 34 ∨ r = 92) :
    Calls Try.prog 21 #[.pointer (some ⟨b, 0, none⟩), .int .i32 r] w (Wrote B b (acc ++ [92, r.toUInt8]) w) := by
  have hl : (Lib.byteCells acc).length + 1 ≤ 140737488355328 := by rw [Lib.byteCells_length]; omega
  rcases h2 with rfl | rfl
  all_goals
    go_enter Try.func21, Try.ntmps21
    go_wp2_with (go_at_call 20; refine (writeByte_any B b _ _ _ h hl hBw).mono ?_; rintro e w1 ⟨rfl, hk1, hb1, hq1⟩)
    have hB1 : B ≤ w1.heap.size := by have := hb1.size; omega
    go_wp2_with (go_at_call 25; refine (writeRune_any B b _ _ (by omega) (by omega) _ (.inr hk1) (by rw [List.length_append, Lib.byteCells_length]; simp; omega) hB1).mono ?_; rintro e w2 ⟨rfl, hk2, hb2, hq2⟩)
    go_end0
    refine ⟨rfl, ?_, hb1.trans hb2, hq1.trans hq2⟩
  · rw [show acc ++ [92, (34 : Nat).toUInt8] = acc ++ [92] ++ enc 34 by rw [enc_one (by omega)]; simp, ← cells_rune, ← cells_byte]
    exact hk2
  · rw [show acc ++ [92, (92 : Nat).toUInt8] = acc ++ [92] ++ enc 92 by rw [enc_one (by omega)]; simp, ← cells_rune, ← cells_byte]
    exact hk2

set_option maxHeartbeats 1000000 in
theorem wq_letter (B b : Nat) (acc : List UInt8) (r : Nat) (c : UInt8) (w : World) (h : IsB B b (Lib.byteCells acc) w) (hlen : acc.length + 6 ≤ 140737488355328) (hBw : B ≤ w.heap.size)
    (h2 : (r = 8 ∧ c = 98) ∨ (r = 9 ∧ c = 116) ∨ (r = 10 ∧ c = 110) ∨ (r = 12 ∧ c = 102) ∨ (r = 13 ∧ c = 114)) :
    Calls Try.prog 21 #[.pointer (some ⟨b, 0, none⟩), .int .i32 r] w (Wrote B b (acc ++ [92, c]) w) := by
  have hl : (Lib.byteCells acc).length + 1 ≤ 140737488355328 := by rw [Lib.byteCells_length]; omega
  rcases h2 with ⟨rfl, rfl⟩ | ⟨rfl, rfl⟩ | ⟨rfl, rfl⟩ | ⟨rfl, rfl⟩ | ⟨rfl, rfl⟩
  all_goals
    go_enter Try.func21, Try.ntmps21
    go_wp2_with (go_at_call 30; refine (Try.strings_IndexRune_ascii _ _ _ (by omega) (by omega)).mono ?_; rintro e w' ⟨rfl, rfl⟩)
    go_wp2_with (go_at_call 20; refine (writeByte_any B b _ _ _ h hl hBw).mono ?_; rintro e w1 ⟨rfl, hk1, hb1, hq1⟩)
    have hB1 : B ≤ w1.heap.size := by have := hb1.size; omega
    go_wp2_with (go_at_call 20; refine (writeByte_any B b _ _ _ (.inr hk1) (by rw [List.length_append, Lib.byteCells_length]; simp; omega) hB1).mono ?_; rintro e w2 ⟨rfl, hk2, hb2, hq2⟩)
    go_end0
    refine ⟨rfl, ?_, hb1.trans hb2, hq1.trans hq2⟩
    rw [List.append_cons, ← cells_byte, ← cells_byte]
    exact hk2
end Go.Proofs.Ytfkdepjioleakaa
