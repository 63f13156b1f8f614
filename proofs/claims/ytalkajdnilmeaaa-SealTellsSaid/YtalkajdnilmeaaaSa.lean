import Derived.Test.YtalkajdnilmeaaaSl
import Derived.Test.YtalkajdnilmeaaaChecked
import Derived.WalkKit
import Derived.BigCall
import Derived.Lib.Hide
import Derived.Below
import Derived.ProofKit
import Derived.Deep.QuietTactic
import Derived.RegionTactic
import Derived.Laws.DeepStrings4
import Derived.Laws.BitsAllLaws
/- Layer 6: what is said of strings and calls; the contracts of pick and of both Sums. -/
set_option linter.unusedVariables false
set_option linter.unusedSimpArgs false
namespace Go.Proofs.Ytalkajdnilmeaaa.Se
open Go.RowKit

/-- It returned a value, and all that was there is as it was. -/
def Ret (v : Value) (w : World) (e : Ending) (w' : World) : Prop := e = .returned v ∧ Below w.heap.size w w'
theorem ret_int {k : IntKind} {a b : Int} (h : a = b) : Ending.returned (.int k a) = .returned (.int k b) := by rw [h]
theorem ret_bool {a b : Bool} (h : a = b) : Ending.returned (.bool a) = .returned (.bool b) := by rw [h]
theorem ret_str {a b : ByteArray} (h : a = b) : Ending.returned (.string a) = .returned (.string b) := by rw [h]
theorem bs_append (a b : List UInt8) : (⟨a.toArray⟩ ++ ⟨b.toArray⟩ : ByteArray) = ⟨(a ++ b).toArray⟩ := by
  apply ByteArray.ext; simp
theorem bs_size (F : List UInt8) : (⟨F.toArray⟩ : ByteArray).size = F.length := List.size_toArray
theorem bs_self (s : ByteArray) : s = ⟨s.data.toList.toArray⟩ := by apply ByteArray.ext; simp
theorem sz (s : ByteArray) : s.data.toList.length = s.size := by rw [Array.length_toList]; rfl
theorem bs_take (F : List UInt8) (p : Nat) : (⟨F.toArray⟩ : ByteArray).extract 0 p = ⟨(F.take p).toArray⟩ := by
  apply ByteArray.ext; simp
theorem ext_drop (s : ByteArray) (p : Nat) : (s.extract p s.size).data.toList = s.data.toList.drop p := by
  rw [ByteArray.data_extract, Array.toList_extract]
  simp only [List.extract]
  exact List.take_of_length_le (by rw [List.length_drop, Array.length_toList]; exact Nat.le_refl _)
theorem bs_drop (F : List UInt8) (p : Nat) : (⟨F.toArray⟩ : ByteArray).extract p F.length = ⟨(F.drop p).toArray⟩ := by
  rw [bs_self (ByteArray.extract _ _ _)]
  have := ext_drop ⟨F.toArray⟩ p
  rw [bs_size] at this
  rw [this]
theorem take_at {s : ByteArray} {k : Nat} (h : k < s.size) : s.data.toList.take (k + 1) = s.data.toList.take k ++ [s[k]] := by
  rw [List.take_add_one, List.getElem?_eq_getElem (by rw [sz]; exact h)]; rfl

def pickS (c n : Int) : Int := (if c < 0 then -(c + 1) else c) % n
theorem pickS_nonneg {c n : Int} (h : 0 < n) : 0 ≤ pickS c n := Int.emod_nonneg _ (by omega)
theorem pickS_lt {c n : Int} (h : 0 < n) : pickS c n < n := Int.emod_lt_of_pos _ h
theorem pick_any (c n : Int) (w : World) (hc0 : -9223372036854775808 ≤ c) (hc1 : c ≤ 9223372036854775807) (hn0 : 0 < n) (hn1 : n ≤ 9223372036854775807) :
    Calls Try.prog 11 #[.int .i64 c, .int .i64 n] w (fun e w' => e = .returned (.int .i64 (pickS c n)) ∧ w = w') := by
  by_cases hc : c < 0
  all_goals
    go_enter Try.func11, Try.ntmps11
    go_wp2
    go_ret
    refine ⟨ret_int ?_, rfl⟩
    unfold pickS
    first
      | (rw [if_pos hc, ← Int.neg_tmod, Int.tmod_eq_emod_of_nonneg (by omega)]; done)
      | rw [if_neg (by omega)]

theorem xor_u32 (h : Nat) (b : UInt8) (hh : h < 4294967296) : bits .xor .u32 (h : Int) (b.toNat : Int) = ((h ^^^ b.toNat : Nat) : Int) :=
  u32_xor_nat h b.toNat hh (Nat.lt_trans b.toNat_lt (by decide))
theorem step_u32 (h : Nat) (b : UInt8) (hh : h < 4294967296) : bits .xor .u32 (h : Int) ((b.toNat : Int) % 4294967296) * 16777619 % 4294967296 = ((stepS h b : Nat) : Int) := by
  have := b.toNat_lt
  rw [show ((b.toNat : Int) % 4294967296) = (b.toNat : Int) by omega, xor_u32 h b hh]
  unfold stepS
  omega
theorem run_byte (s : ByteArray) (k : Nat) (h : k < s.size) (c : Nat) (hc : s[k].toNat = c) (u : World) : (Instr.index 9 (.string s) (.int .i64 (k : Int))).run Try.prog u = .ok (.int .u8 c) u := by
  rw [run_index_string _ _ _ _ _ Try.underlying9]
  have e1 : ((k : Int)).toNat = k := Int.toNat_natCast k
  simp [h, hc]
theorem mul_u32 (x : Nat) : IntKind.u32.wrap ((x : Int) * 16777619) = ((16777619 * x % 4294967296 : Nat) : Int) := by
  rw [IntKind.wrap_u32']; omega

set_option maxHeartbeats 1000000 in
theorem sum_any (s : ByteArray) (w : World) (hs : s.size ≤ 281474976710656) :
    Calls Try.prog 15 #[.string s] w (fun e w' => e = .returned (.int .u32 (sumS s.data.toList)) ∧ w = w') := by
  go_enter Try.func15, Try.ntmps15
  go_wp2
  go_loop [3, 7] (fun h i => ∃ k H : Nat, k ≤ s.size ∧ i = .int .i64 k ∧ h = .int .u32 H ∧ Hid (H = sumS (s.data.toList.take k))) (fun _ i => s.size - (intOf i).toNat)
  case atStart => exact ⟨0, 2166136261, Nat.zero_le _, rfl, rfl, rfl⟩
  case round =>
    obtain ⟨k, H, hk, rfl, rfl, HK⟩ := hrel
    by_cases hlt : k < s.size
    · have hx : ∀ u : World, (Instr.index 9 (.string s) (.int .i64 k)).run Try.prog u = .ok (.int .u8 s[k].toNat) u := run_byte s k hlt s[k].toNat rfl
      have HD := Lib.hid (take_at hlt)
      generalize hc : s[k] = c at *
      have HX := Lib.hid (step_u32 H c (by rw [HK.out]; exact sumS_lt _))
      go_wp2_with fail
      go_round
      case rel => exact ⟨k + 1, stepS H c, by omega, by go_num, by rw [HX.out], by show _ = _; rw [HD.out, sumS_snoc, HK.out]⟩
      case measure => simp [intOf]; omega
    · have HE : Hid (H = sumS s.data.toList) := by
        show _ = _
        rw [HK.out, List.take_of_length_le (by rw [sz]; omega)]
      go_wp2_with fail
      go_ret
      exact ⟨ret_int (by rw [HE.out]), rfl⟩

set_option maxHeartbeats 1000000 in
theorem rsum_any (s : ByteArray) (w : World) (hs : s.size ≤ 281474976710656) :
    Calls Try.prog 16 #[.string s] w (fun e w' => e = .returned (.int .u32 (sumS s.data.toList)) ∧ w = w') := by
  go_enter Try.func16, Try.ntmps16
  go_wp2
  go_loop [3, 4] (fun h i => ∃ k H : Nat, k ≤ s.size ∧ i = .int .i64 k ∧ h = .int .u32 H ∧ Hid (H = sumS (s.data.toList.take k))) (fun _ i => s.size - (intOf i).toNat)
  case atStart => exact ⟨0, 2166136261, Nat.zero_le _, rfl, rfl, rfl⟩
  case round =>
    obtain ⟨k, H, hk, rfl, rfl, HK⟩ := hrel
    by_cases hlt : k < s.size
    · have hx : ∀ u : World, (Instr.index 9 (.string s) (.int .i64 k)).run Try.prog u = .ok (.int .u8 s[k].toNat) u := run_byte s k hlt s[k].toNat rfl
      have HD := Lib.hid (take_at hlt)
      generalize hc : s[k] = c at *
      have HX := Lib.hid (step_u32 H c (by rw [HK.out]; exact sumS_lt _))
      go_wp2_with fail
      go_round
      case rel => exact ⟨k + 1, stepS H c, by omega, by go_num, by rw [HX.out], by show _ = _; rw [HD.out, sumS_snoc, HK.out]⟩
      case measure => simp [intOf]; omega
    · have HE : Hid (H = sumS s.data.toList) := by
        show _ = _
        rw [HK.out, List.take_of_length_le (by rw [sz]; omega)]
      go_wp2_with fail
      go_ret
      exact ⟨ret_int (by rw [HE.out]), rfl⟩

end Go.Proofs.Ytalkajdnilmeaaa.Se
