/- The contract of laid of the document's answer: a character's bytes. -/
import Derived.Test.YtfkdepjioleakaaRFour
import Derived.Test.YtfkdepjioleakaaROne
set_option linter.unusedVariables false
set_option linter.unusedSimpArgs false
namespace Go.Proofs.Ytfkdepjioleakaa
open Go.RowKit

/-- A slice of bytes, just laid. -/
def Laid (l : List UInt8) (w : World) (e : Ending) (w' : World) : Prop :=
  e = .returned (.slice (some ⟨w.heap.size, 0, none⟩) l.length l.length) ∧ w' = w.alloc (.cells (Lib.byteCells l).toArray 5)

theorem cells_enc (v : Nat) : Lib.byteCells (enc v) = (Lib.encodeRuneZ (v : Int)).map fun x => Value.int .u8 x := by
  unfold enc
  rw [Lib.byteCells_encodeRune]
  rfl
theorem or192 (y : Int) (h0 : 0 ≤ y) (h1 : y < 32) : bits .or .i64 192 y = 192 + y :=
  bits_join .i64 40 (by decide) (fun n a b => by rw [IntKind.wrap_i64]; omega) 5 _ _ (by omega) (by omega) (by omega) (by omega) (by omega) (by omega)
theorem or128 (y : Int) (h0 : 0 ≤ y) (h1 : y < 64) : bits .or .i64 128 y = 128 + y :=
  bits_join .i64 40 (by decide) (fun n a b => by rw [IntKind.wrap_i64]; omega) 6 _ _ (by omega) (by omega) (by omega) (by omega) (by omega) (by omega)
theorem or224 (y : Int) (h0 : 0 ≤ y) (h1 : y < 16) : bits .or .i64 224 y = 224 + y :=
  bits_join .i64 40 (by decide) (fun n a b => by rw [IntKind.wrap_i64]; omega) 4 _ _ (by omega) (by omega) (by omega) (by omega) (by omega) (by omega)
theorem or240 (y : Int) (h0 : 0 ≤ y) (h1 : y < 8) : bits .or .i64 240 y = 240 + y :=
  bits_join .i64 40 (by decide) (fun n a b => by rw [IntKind.wrap_i64]; omega) 3 _ _ (by omega) (by omega) (by omega) (by omega) (by omega) (by omega)
theorem and63 (x : Int) (h0 : 0 ≤ x) (h1 : x < 4194304) : bits .and .i64 x 63 = x % 64 :=
  bits_mask .i64 22 (by decide) (fun n a b => by rw [IntKind.wrap_i64]; omega) 6 (by decide) x h0 h1
theorem last6 (x : Int) (h0 : 0 ≤ x) (h1 : x < 4194304) : bits .or .i64 128 (bits .and .i64 x 63) % 256 = 128 + x % 64 := by
  rw [and63 x h0 h1, or128 _ (by omega) (by omega)]; omega

set_option maxHeartbeats 2000000 in
set_option maxRecDepth 100000 in
theorem rlaid_1 (v : Nat) (w : World) (h1 : v < 128) : Calls Try.prog 37 #[.int .i64 v] w (Laid (enc v) w) := by
  have HC := Lib.hid (cells_enc v)
  rw [Lib.encodeRuneZ_one (by omega) (by omega)] at HC
  have HL : Hid ((enc v).length = 1) := by show _ = _; rw [enc_one h1]; rfl
  have t1 : decide ((v : Int) < 128) = true := decide_eq_true (by omega)
  go_enter Try.func37, Try.ntmps37
  go_wp2_with fail
  go_ret
  refine ⟨by rw [HL.out]; rfl, ?_⟩
  rw [HC.out]
  simp

set_option maxHeartbeats 2000000 in
set_option maxRecDepth 100000 in
theorem rlaid_2 (v : Nat) (w : World) (h0 : 128 ≤ v) (h1 : v < 2048) : Calls Try.prog 37 #[.int .i64 v] w (Laid (enc v) w) := by
  have HC := Lib.hid (cells_enc v)
  rw [Lib.encodeRuneZ_two (by omega) (by omega)] at HC
  have HL : Hid ((enc v).length = 2) := by show (enc v).length = 2; unfold enc Lib.encodeRune; rw [Lib.encodeRuneZ_two (by omega) (by omega)]; rfl
  have t1 : decide ((v : Int) < 128) = false := decide_eq_false (by omega)
  have t2 : decide ((v : Int) < 2048) = true := decide_eq_true (by omega)
  have e1 := Lib.hid (or192 ((v : Int) / 64) (by omega) (by omega))
  have e2 := Lib.hid (last6 (v : Int) (by omega) (by omega))
  have e3 : Hid ((192 + (v : Int) / 64) % 256 = 192 + (v : Int) / 64) := by show _ = _; omega
  clear h0 h1
  go_enter Try.func37, Try.ntmps37
  go_wp2_with fail
  go_ret
  refine ⟨by rw [HL.out]; rfl, ?_⟩
  rw [HC.out, e1.out, e2.out, e3.out]
  rfl

set_option maxHeartbeats 2000000 in
set_option maxRecDepth 100000 in
theorem rlaid_3 (v : Nat) (w : World) (h0 : 2048 ≤ v) (h1 : v < 65536) (hv : vr v) : Calls Try.prog 37 #[.int .i64 v] w (Laid (enc v) w) := by
  have HC := Lib.hid (cells_enc v)
  unfold vr at hv
  rw [Lib.encodeRuneZ_three (by omega)] at HC
  have HL : Hid ((enc v).length = 3) := by show (enc v).length = 3; unfold enc Lib.encodeRune; rw [Lib.encodeRuneZ_three (by omega)]; rfl
  have t1 : decide ((v : Int) < 128) = false := decide_eq_false (by omega)
  have t2 : decide ((v : Int) < 2048) = false := decide_eq_false (by omega)
  have t3 : decide ((v : Int) < 65536) = true := decide_eq_true (by omega)
  have e1 := Lib.hid (or224 ((v : Int) / 4096) (by omega) (by omega))
  have e2 := Lib.hid (last6 (v : Int) (by omega) (by omega))
  have e3 := Lib.hid (last6 ((v : Int) / 64) (by omega) (by omega))
  have e4 : Hid ((224 + (v : Int) / 4096) % 256 = 224 + (v : Int) / 4096) := by show _ = _; omega
  clear h0 h1 hv
  go_enter Try.func37, Try.ntmps37
  go_wp2_with fail
  go_ret
  refine ⟨by rw [HL.out]; rfl, ?_⟩
  rw [HC.out, e1.out, e2.out, e3.out, e4.out]
  rfl

set_option maxHeartbeats 2000000 in
set_option maxRecDepth 100000 in
theorem rlaid_4 (v : Nat) (w : World) (h0 : 65536 ≤ v) (h1 : v ≤ 1114111) : Calls Try.prog 37 #[.int .i64 v] w (Laid (enc v) w) := by
  have HC := Lib.hid (cells_enc v)
  rw [Lib.encodeRuneZ_four (by omega) (by omega)] at HC
  have HL : Hid ((enc v).length = 4) := by show (enc v).length = 4; unfold enc Lib.encodeRune; rw [Lib.encodeRuneZ_four (by omega) (by omega)]; rfl
  have t1 : decide ((v : Int) < 128) = false := decide_eq_false (by omega)
  have t2 : decide ((v : Int) < 2048) = false := decide_eq_false (by omega)
  have t3 : decide ((v : Int) < 65536) = false := decide_eq_false (by omega)
  have e1 := Lib.hid (or240 ((v : Int) / 262144) (by omega) (by omega))
  have e2 := Lib.hid (last6 (v : Int) (by omega) (by omega))
  have e3 := Lib.hid (last6 ((v : Int) / 64) (by omega) (by omega))
  have e5 := Lib.hid (last6 ((v : Int) / 4096) (by omega) (by omega))
  have e4 : Hid ((240 + (v : Int) / 262144) % 256 = 240 + (v : Int) / 262144) := by show _ = _; omega
  clear h0 h1
  go_enter Try.func37, Try.ntmps37
  go_wp2_with fail
  go_ret
  refine ⟨by rw [HL.out]; rfl, ?_⟩
  rw [HC.out, e1.out, e2.out, e3.out, e4.out, e5.out]
  rfl

theorem rlaid_any (v : Nat) (w : World) (hv : vr v) : Calls Try.prog 37 #[.int .i64 v] w (Laid (enc v) w) := by
  by_cases h1 : v < 128
  · exact rlaid_1 v w h1
  by_cases h2 : v < 2048
  · exact rlaid_2 v w (by omega) h2
  by_cases h3 : v < 65536
  · exact rlaid_3 v w (by omega) h3 hv
  · exact rlaid_4 v w (by omega) (by unfold vr at hv; omega)
end Go.Proofs.Ytfkdepjioleakaa
