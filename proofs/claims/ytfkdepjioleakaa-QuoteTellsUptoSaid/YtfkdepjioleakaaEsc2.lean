/- Contracts of numbered and escape. -/
import Derived.Test.YtfkdepjioleakaaEsc
set_option linter.unusedVariables false
set_option linter.unusedSimpArgs false
namespace Go.Proofs.Ytfkdepjioleakaa
open Go.RowKit

def escV (p : Nat × Nat) : Value := .tuple #[.int .i32 p.1, .int .i64 p.2]
theorem two_ii {a b : Int} {x y : Int} (h : a = b) (k : x = y) : Ending.returned (.tuple #[.int .i32 a, .int .i64 x]) = .returned (.tuple #[.int .i32 b, .int .i64 y]) := by rw [h, k]

set_option maxHeartbeats 1000000 in
theorem numbered_any (s : ByteArray) (w : World) (hs : s.size ≤ 140737488355328) :
    Calls Try.prog 33 #[.string s] w (fun e w' => e = .returned (escV (numL s.data.toList)) ∧ w = w') := by
  have U1 := Lib.hid (fun w => unit_any s w hs)
  cases hu : unitL s.data.toList with
  | none =>
    rw [show numL s.data.toList = (0, 0) by simp [numL, hu]]
    unfold escV
    rw [hu] at U1
    clear hu
    go_enter Try.func33, Try.ntmps33
    go_wp2_with (go_at_call 42; refine (U1.out _).mono ?_; rintro e w' ⟨rfl, rfl⟩; unfold digV)
    go_ret2
    exact ⟨rfl, rfl⟩
  | some f =>
    obtain ⟨hf, hl, _⟩ := unitL_facts hu
    rw [sz] at hl
    rw [hu] at U1
    have S1 := Lib.hid (fun w => isSecond_any f w)
    cases hS : isS f with
    | true =>
      rw [hS] at S1
      rw [show numL s.data.toList = (0, 0) by simp [numL, hu, hS]]
      unfold escV
      clear hS hu
      go_enter Try.func33, Try.ntmps33
      go_wp2_with (first
        | (go_at_call 42; refine (U1.out _).mono ?_; rintro e w' ⟨rfl, rfl⟩; unfold digV)
        | (go_at_call 43; refine (S1.out _).mono ?_; rintro e w' ⟨rfl, rfl⟩))
      go_ret2
      exact ⟨rfl, rfl⟩
    | false =>
      rw [hS] at S1
      have F1 := Lib.hid (fun w => isFirst_any f w)
      cases hF : isF f with
      | false =>
        rw [hF] at F1
        rw [show numL s.data.toList = (f, 6) by simp [numL, hu, hS, hF]]
        unfold escV
        clear hF hS hu
        go_enter Try.func33, Try.ntmps33
        go_wp2_with (first
          | (go_at_call 42; refine (U1.out _).mono ?_; rintro e w' ⟨rfl, rfl⟩; unfold digV)
          | (go_at_call 43; refine (S1.out _).mono ?_; rintro e w' ⟨rfl, rfl⟩)
          | (go_at_call 44; refine (F1.out _).mono ?_; rintro e w' ⟨rfl, rfl⟩))
        go_ret2
        exact ⟨rfl, rfl⟩
      | true =>
        rw [hF] at F1
        have hfb : 55296 ≤ f ∧ f < 56320 := by simpa [isF] using hF
        obtain ⟨hf0, hf1⟩ := hfb
        clear hf
        have U2 := Lib.hid (fun w => unit_any (s.extract 6 s.size) w (by rw [ByteArray.size_extract]; omega))
        rw [ext_drop] at U2
        cases hu2 : unitL (s.data.toList.drop 6) with
        | none =>
          rw [hu2] at U2
          rw [show numL s.data.toList = (0, 0) by simp [numL, hu, hS, hF, hu2]]
          unfold escV
          clear hu2 hu hS hF
          go_enter Try.func33, Try.ntmps33
          go_wp2_with (first
            | (go_at_call 42; (with_reducible refine (U1.out _).mono ?_); rintro e w' ⟨rfl, rfl⟩; unfold digV)
            | (go_at_call 42; (with_reducible refine (U2.out _).mono ?_); rintro e w' ⟨rfl, rfl⟩; unfold digV)
            | (go_at_call 43; refine (S1.out _).mono ?_; rintro e w' ⟨rfl, rfl⟩)
            | (go_at_call 44; refine (F1.out _).mono ?_; rintro e w' ⟨rfl, rfl⟩))
          go_ret2
          exact ⟨rfl, rfl⟩
        | some g =>
          obtain ⟨hg, _, _⟩ := unitL_facts hu2
          rw [hu2] at U2
          have S2 := Lib.hid (fun w => isSecond_any g w)
          cases hS2 : isS g with
          | false =>
            rw [hS2] at S2
            rw [show numL s.data.toList = (0, 0) by simp [numL, hu, hS, hF, hu2, hS2]]
            unfold escV
            clear hS2 hu2 hu hS hF
            go_enter Try.func33, Try.ntmps33
            go_wp2_with (first
              | (go_at_call 42; (with_reducible refine (U1.out _).mono ?_); rintro e w' ⟨rfl, rfl⟩; unfold digV)
              | (go_at_call 42; (with_reducible refine (U2.out _).mono ?_); rintro e w' ⟨rfl, rfl⟩; unfold digV)
              | (go_at_call 43; (with_reducible refine (S1.out _).mono ?_); rintro e w' ⟨rfl, rfl⟩)
              | (go_at_call 43; (with_reducible refine (S2.out _).mono ?_); rintro e w' ⟨rfl, rfl⟩)
              | (go_at_call 44; refine (F1.out _).mono ?_; rintro e w' ⟨rfl, rfl⟩))
            go_ret2
            exact ⟨rfl, rfl⟩
          | true =>
            rw [hS2] at S2
            have hgb : 56320 ≤ g ∧ g < 57344 := by simpa [isS] using hS2
            obtain ⟨hg0, hg1⟩ := hgb
            rw [show numL s.data.toList = (65536 + (f - 55296) * 1024 + (g - 56320), 12) by simp [numL, hu, hS, hF, hu2, hS2]]
            unfold escV
            clear hS2 hu2 hu hS hF
            go_enter Try.func33, Try.ntmps33
            go_wp2_with (first
              | (go_at_call 42; (with_reducible refine (U1.out _).mono ?_); rintro e w' ⟨rfl, rfl⟩; unfold digV)
              | (go_at_call 42; (with_reducible refine (U2.out _).mono ?_); rintro e w' ⟨rfl, rfl⟩; unfold digV)
              | (go_at_call 43; (with_reducible refine (S1.out _).mono ?_); rintro e w' ⟨rfl, rfl⟩)
              | (go_at_call 43; (with_reducible refine (S2.out _).mono ?_); rintro e w' ⟨rfl, rfl⟩)
              | (go_at_call 44; refine (F1.out _).mono ?_; rintro e w' ⟨rfl, rfl⟩))
            go_ret2
            exact ⟨two_ii (by simp; omega) rfl, rfl⟩

theorem u8_ne {c : UInt8} (n : Nat) (hn : n < 256) (h : c ≠ n.toUInt8) : ((c.toNat : Int) == (n : Int)) = false := by
  have : c.toNat ≠ n := fun e => h (by rw [← e]; simp)
  simp; omega


theorem run_byte (s : ByteArray) (k : Nat) (h : k < s.size) (c : Nat) (hc : s[k].toNat = c) (u : World) : (Instr.index 9 (.string s) (.int .i64 (k : Int))).run Try.prog u = .ok (.int .u8 c) u := by
  rw [run_index_string _ _ _ _ _ Try.underlying9]
  have e1 : ((k : Int)).toNat = k := Int.toNat_natCast k
  simp [h, hc]

theorem esc_class (c : UInt8) : (c = 34 ∨ c = 92 ∨ c = 47) ∨ c = 117 ∨ c = 98 ∨ c = 116 ∨ c = 110 ∨ c = 102 ∨ c = 114 ∨
    ((c.toNat : Int) == 34) = false ∧ ((c.toNat : Int) == 92) = false ∧ ((c.toNat : Int) == 47) = false ∧ ((c.toNat : Int) == 117) = false ∧ Lib.indexByte [98, 116, 110, 102, 114] c = -1 ∧ ¬ (c = 34 ∨ c = 92 ∨ c = 47) ∧ c ≠ 117 ∧ c ≠ 98 ∧ c ≠ 116 ∧ c ≠ 110 ∧ c ≠ 102 ∧ c ≠ 114 := by
  have : ∀ n : Nat, n < 256 → (n.toUInt8 = 34 ∨ n.toUInt8 = 92 ∨ n.toUInt8 = 47) ∨ n.toUInt8 = 117 ∨ n.toUInt8 = 98 ∨ n.toUInt8 = 116 ∨ n.toUInt8 = 110 ∨ n.toUInt8 = 102 ∨ n.toUInt8 = 114 ∨
    ((n.toUInt8.toNat : Int) == 34) = false ∧ ((n.toUInt8.toNat : Int) == 92) = false ∧ ((n.toUInt8.toNat : Int) == 47) = false ∧ ((n.toUInt8.toNat : Int) == 117) = false ∧ Lib.indexByte [98, 116, 110, 102, 114] n.toUInt8 = -1 ∧ ¬ (n.toUInt8 = 34 ∨ n.toUInt8 = 92 ∨ n.toUInt8 = 47) ∧ n.toUInt8 ≠ 117 ∧ n.toUInt8 ≠ 98 ∧ n.toUInt8 ≠ 116 ∧ n.toUInt8 ≠ 110 ∧ n.toUInt8 ≠ 102 ∧ n.toUInt8 ≠ 114 := by decide +kernel
  have h := this c.toNat c.toNat_lt
  rwa [show c.toNat.toUInt8 = c by simp] at h

set_option maxHeartbeats 2000000 in
theorem escape_any (s : ByteArray) (w : World) (hs : s.size ≤ 140737488355328) :
    Calls Try.prog 24 #[.string s] w (fun e w' => e = .returned (escV (escL s.data.toList)) ∧ w = w') := by
  by_cases h : s.size < 2
  · rw [show escL s.data.toList = (0, 0) by unfold escL; rw [if_pos (by rw [sz]; exact h)]]
    unfold escV
    go_enter Try.func24, Try.ntmps24
    go_wp2_with fail
    go_ret2
    exact ⟨rfl, rfl⟩
  have h2 : 1 < s.size := by omega
  have hg : s.data.toList.getD 1 0 = s[1] := (byte_getD s 1 h2).symm
  have hn : ¬ s.data.toList.length < 2 := by rw [sz]; exact h
  rcases esc_class s[1] with (hc | hc | hc) | hc | hc | hc | hc | hc | hc | ⟨k1, k2, k3, k4, k5, k6, k7, k8, k9, k10, k11, k12⟩
  · have hx : ∀ u : World, (Instr.index 9 (.string s) (.int .i64 1)).run Try.prog u = .ok (.int .u8 34) u := run_byte s 1 h2 34 (by rw [hc]; rfl)
    have he : escL s.data.toList = (34, 2) := by unfold escL; rw [if_neg hn, hg, hc]; simp
    rw [he]
    unfold escV
    clear he hc hg hn
    go_enter Try.func24, Try.ntmps24
    go_wp2_with fail
    go_ret2
    exact ⟨rfl, rfl⟩
  · have hx : ∀ u : World, (Instr.index 9 (.string s) (.int .i64 1)).run Try.prog u = .ok (.int .u8 92) u := run_byte s 1 h2 92 (by rw [hc]; rfl)
    have he : escL s.data.toList = (92, 2) := by unfold escL; rw [if_neg hn, hg, hc]; simp
    rw [he]
    unfold escV
    clear he hc hg hn
    go_enter Try.func24, Try.ntmps24
    go_wp2_with fail
    go_ret2
    exact ⟨rfl, rfl⟩
  · have hx : ∀ u : World, (Instr.index 9 (.string s) (.int .i64 1)).run Try.prog u = .ok (.int .u8 47) u := run_byte s 1 h2 47 (by rw [hc]; rfl)
    have he : escL s.data.toList = (47, 2) := by unfold escL; rw [if_neg hn, hg, hc]; simp
    rw [he]
    unfold escV
    clear he hc hg hn
    go_enter Try.func24, Try.ntmps24
    go_wp2_with fail
    go_ret2
    exact ⟨rfl, rfl⟩
  · have hx : ∀ u : World, (Instr.index 9 (.string s) (.int .i64 1)).run Try.prog u = .ok (.int .u8 117) u := run_byte s 1 h2 117 (by rw [hc]; rfl)
    have he : escL s.data.toList = numL s.data.toList := by unfold escL; rw [if_neg hn, hg, hc, if_neg (by decide), if_pos rfl]
    have NU := Lib.hid (fun w => numbered_any s w hs)
    rw [he]
    generalize numL s.data.toList = nl at *
    unfold escV at NU ⊢
    clear he hc hg hn
    go_enter Try.func24, Try.ntmps24
    go_wp2_with (go_at_call 33; refine (NU.out _).mono ?_; rintro e w' ⟨rfl, rfl⟩)
    go_ret2
    exact ⟨rfl, rfl⟩
  · have hx : ∀ u : World, (Instr.index 9 (.string s) (.int .i64 1)).run Try.prog u = .ok (.int .u8 98) u := run_byte s 1 h2 98 (by rw [hc]; rfl)
    have he : escL s.data.toList = (8, 2) := by unfold escL; rw [if_neg hn, hg, hc]; simp
    rw [he]
    unfold escV
    clear he hc hg hn
    have IX := Lib.hid (fun w => Try.strings_IndexByte ⟨#[98, 116, 110, 102, 114]⟩ 98 w)
    rw [show Lib.indexByte (⟨#[98, 116, 110, 102, 114]⟩ : ByteArray).data.toList (98 : Int).toNat.toUInt8 = 0 by decide +kernel] at IX
    go_enter Try.func24, Try.ntmps24
    go_wp2_with (go_at_call 34; refine (IX.out _).mono ?_; rintro e w' ⟨rfl, rfl⟩)
    go_ret2
    exact ⟨two_ii (by decide +kernel) rfl, rfl⟩
  · have hx : ∀ u : World, (Instr.index 9 (.string s) (.int .i64 1)).run Try.prog u = .ok (.int .u8 116) u := run_byte s 1 h2 116 (by rw [hc]; rfl)
    have he : escL s.data.toList = (9, 2) := by unfold escL; rw [if_neg hn, hg, hc]; simp
    rw [he]
    unfold escV
    clear he hc hg hn
    have IX := Lib.hid (fun w => Try.strings_IndexByte ⟨#[98, 116, 110, 102, 114]⟩ 116 w)
    rw [show Lib.indexByte (⟨#[98, 116, 110, 102, 114]⟩ : ByteArray).data.toList (116 : Int).toNat.toUInt8 = 1 by decide +kernel] at IX
    go_enter Try.func24, Try.ntmps24
    go_wp2_with (go_at_call 34; refine (IX.out _).mono ?_; rintro e w' ⟨rfl, rfl⟩)
    go_ret2
    exact ⟨two_ii (by decide +kernel) rfl, rfl⟩
  · have hx : ∀ u : World, (Instr.index 9 (.string s) (.int .i64 1)).run Try.prog u = .ok (.int .u8 110) u := run_byte s 1 h2 110 (by rw [hc]; rfl)
    have he : escL s.data.toList = (10, 2) := by unfold escL; rw [if_neg hn, hg, hc]; simp
    rw [he]
    unfold escV
    clear he hc hg hn
    have IX := Lib.hid (fun w => Try.strings_IndexByte ⟨#[98, 116, 110, 102, 114]⟩ 110 w)
    rw [show Lib.indexByte (⟨#[98, 116, 110, 102, 114]⟩ : ByteArray).data.toList (110 : Int).toNat.toUInt8 = 2 by decide +kernel] at IX
    go_enter Try.func24, Try.ntmps24
    go_wp2_with (go_at_call 34; refine (IX.out _).mono ?_; rintro e w' ⟨rfl, rfl⟩)
    go_ret2
    exact ⟨two_ii (by decide +kernel) rfl, rfl⟩
  · have hx : ∀ u : World, (Instr.index 9 (.string s) (.int .i64 1)).run Try.prog u = .ok (.int .u8 102) u := run_byte s 1 h2 102 (by rw [hc]; rfl)
    have he : escL s.data.toList = (12, 2) := by unfold escL; rw [if_neg hn, hg, hc]; simp
    rw [he]
    unfold escV
    clear he hc hg hn
    have IX := Lib.hid (fun w => Try.strings_IndexByte ⟨#[98, 116, 110, 102, 114]⟩ 102 w)
    rw [show Lib.indexByte (⟨#[98, 116, 110, 102, 114]⟩ : ByteArray).data.toList (102 : Int).toNat.toUInt8 = 3 by decide +kernel] at IX
    go_enter Try.func24, Try.ntmps24
    go_wp2_with (go_at_call 34; refine (IX.out _).mono ?_; rintro e w' ⟨rfl, rfl⟩)
    go_ret2
    exact ⟨two_ii (by decide +kernel) rfl, rfl⟩
  · have hx : ∀ u : World, (Instr.index 9 (.string s) (.int .i64 1)).run Try.prog u = .ok (.int .u8 114) u := run_byte s 1 h2 114 (by rw [hc]; rfl)
    have he : escL s.data.toList = (13, 2) := by unfold escL; rw [if_neg hn, hg, hc]; simp
    rw [he]
    unfold escV
    clear he hc hg hn
    have IX := Lib.hid (fun w => Try.strings_IndexByte ⟨#[98, 116, 110, 102, 114]⟩ 114 w)
    rw [show Lib.indexByte (⟨#[98, 116, 110, 102, 114]⟩ : ByteArray).data.toList (114 : Int).toNat.toUInt8 = 4 by decide +kernel] at IX
    go_enter Try.func24, Try.ntmps24
    go_wp2_with (go_at_call 34; refine (IX.out _).mono ?_; rintro e w' ⟨rfl, rfl⟩)
    go_ret2
    exact ⟨two_ii (by decide +kernel) rfl, rfl⟩
  · have he : escL s.data.toList = (0, 0) := by unfold escL; rw [if_neg hn, hg, if_neg k6, if_neg k7, if_neg k8, if_neg k9, if_neg k10, if_neg k11, if_neg k12]
    have IX := Lib.hid (fun w => Try.strings_IndexByte ⟨#[98, 116, 110, 102, 114]⟩ (s[1].toNat : Int) w)
    rw [show (⟨#[98, 116, 110, 102, 114]⟩ : ByteArray).data.toList = [98, 116, 110, 102, 114] from rfl, Int.toNat_natCast, show s[1].toNat.toUInt8 = s[1] by simp, k5] at IX
    rw [he]
    unfold escV
    clear he hg hn k5 k6 k7 k8 k9 k10 k11 k12
    go_enter Try.func24, Try.ntmps24
    go_wp2_with (go_at_call 34; refine (IX.out _).mono ?_; rintro e w' ⟨rfl, rfl⟩)
    go_ret2
    exact ⟨rfl, rfl⟩
end Go.Proofs.Ytfkdepjioleakaa
