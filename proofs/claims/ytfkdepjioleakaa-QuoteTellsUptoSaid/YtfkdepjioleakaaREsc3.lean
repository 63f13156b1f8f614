/- The contract of escape of the document's answer: pairs of halves; and all of it. -/
import Derived.Test.YtfkdepjioleakaaREsc2
set_option linter.unusedVariables false
set_option linter.unusedSimpArgs false
namespace Go.Proofs.Ytfkdepjioleakaa
open Go.RowKit

def pairL (f : Nat) (o : Option Nat) : Nat × Nat := match o with
  | none => (0, 0)
  | some g => if isS g then (65536 + (f - 55296) * 1024 + (g - 56320), 12) else (0, 0)

set_option maxHeartbeats 2000000 in
set_option maxRecDepth 100000 in
theorem resc_u2 (s : ByteArray) (p : Nat) (w : World) (hs : s.size ≤ 140737488355328) (h2 : p + 1 < s.size) (hc : s[p + 1] = 117) (f : Nat) (hF : fourL (s.data.toList.drop (p + 2)) = some f) (h3 : isF f = true) :
    Calls Try.prog 27 #[.string s, .int .i64 ((p : Int) + 1)] w (EscRet (pairL f (unitL (s.data.toList.drop (p + 6)))) w) := by
  have hx : ∀ u : World, (Instr.index 9 (.string s) (.int .i64 ((p : Int) + 1))).run Try.prog u = .ok (.int .u8 117) u := fun u => by
    have := run_byte s (p + 1) h2 117 (by rw [hc]; rfl) u
    rwa [Int.natCast_add] at this
  have RF := Lib.hid (fun u => rfour_any s (p + 2) u hs (by omega))
  rw [hF, show ((p + 2 : Nat) : Int) = (p : Int) + 1 + 1 by omega, show fourV (some f) = (f : Int) from rfl] at RF
  have hb : 55296 ≤ f ∧ f < 56320 := by simpa [isF] using h3
  have hub := Lib.hid (unit_by_four (s.data.toList.drop (p + 6)))
  rw [List.length_drop, sz, List.drop_drop, Lib.getD_dropU, Lib.getD_dropU, show p + 6 + 2 = p + 8 by omega, show p + 6 + 0 = p + 6 by omega, show p + 6 + 1 = p + 7 by omega] at hub
  obtain ⟨z, hz⟩ : ∃ z : Int, z = (f : Int) := ⟨_, rfl⟩
  have a0 : decide (z < 0) = false := decide_eq_false (by omega)
  have a1 : decide (56320 ≤ z) = false := decide_eq_false (by omega)
  have a3 : decide (z < 55296) = false := decide_eq_false (by omega)
  have a4 : decide (57343 < z) = false := decide_eq_false (by omega)
  rw [← hz] at RF
  by_cases hl : s.size < p + 8
  · rw [if_pos (.inl (by omega))] at hub
    have HE : Hid (pairL f (unitL (s.data.toList.drop (p + 6))) = (0, 0)) := by show _ = _; rw [hub.out]; rfl
    rw [HE.out]
    have b1 : decide ((s.size : Int) < (p : Int) + 1 + 7) = true := decide_eq_true (by omega)
    clear hub hc hF h3 hb hz
    go_enter Try.func27, Try.ntmps27
    go_wp2_with (go_at_call 36; (with_reducible refine (RF.out _).mono ?_); rintro e w' ⟨rfl, rfl⟩)
    go_ret2
    exact esc_no ⟨rfl, rfl⟩
  obtain ⟨c5, hc5⟩ : ∃ c, s[p + 6].toNat = c := ⟨_, rfl⟩
  obtain ⟨c6, hc6⟩ : ∃ c, s[p + 7].toNat = c := ⟨_, rfl⟩
  have hx5 : ∀ u : World, (Instr.index 9 (.string s) (.int .i64 ((p : Int) + 1 + 5))).run Try.prog u = .ok (.int .u8 c5) u := fun u => by
    have := run_byte s (p + 6) (by omega) c5 hc5 u
    rwa [show ((p + 6 : Nat) : Int) = (p : Int) + 1 + 5 by omega] at this
  have hx6 : ∀ u : World, (Instr.index 9 (.string s) (.int .i64 ((p : Int) + 1 + 6))).run Try.prog u = .ok (.int .u8 c6) u := fun u => by
    have := run_byte s (p + 7) (by omega) c6 hc6 u
    rwa [show ((p + 7 : Nat) : Int) = (p : Int) + 1 + 6 by omega] at this
  rw [← byte_getD s (p + 6) (by omega), ← byte_getD s (p + 7) (by omega)] at hub
  have b1 : decide ((s.size : Int) < (p : Int) + 1 + 7) = false := decide_eq_false (by omega)
  by_cases h5 : c5 = 92 ∧ c6 = 117
  · obtain ⟨rfl, rfl⟩ := h5
    have e5 : s[p + 6] = 92 := UInt8.toNat_inj.1 (by rw [hc5]; rfl)
    have e6 : s[p + 7] = 117 := UInt8.toNat_inj.1 (by rw [hc6]; rfl)
    rw [if_neg (by rw [e5, e6]; simp; omega)] at hub
    have RG := Lib.hid (fun u => rfour_any s (p + 8) u hs (by omega))
    rw [show ((p + 8 : Nat) : Int) = (p : Int) + 1 + 7 by omega] at RG
    rw [hub.out]
    cases hG : fourL (s.data.toList.drop (p + 8)) with
    | none =>
      rw [hG, show fourV none = -1 from rfl] at RG
      have HE : Hid (pairL f none = (0, 0)) := rfl
      rw [HE.out]
      clear hub hc hF h3 hb hz hc5 hc6 e5 e6 hG
      go_enter Try.func27, Try.ntmps27
      go_wp2_with (first
        | (go_at_call 36; (with_reducible refine (RF.out _).mono ?_); rintro e w' ⟨rfl, rfl⟩)
        | (go_at_call 36; (with_reducible refine (RG.out _).mono ?_); rintro e w' ⟨rfl, rfl⟩))
      go_ret2
      exact esc_no ⟨rfl, rfl⟩
    | some g =>
      rw [hG, show fourV (some g) = (g : Int) from rfl] at RG
      obtain ⟨y, hy⟩ : ∃ y : Int, y = (g : Int) := ⟨_, rfl⟩
      rw [← hy] at RG
      cases hS : isS g with
      | false =>
        have HE : Hid (pairL f (some g) = (0, 0)) := by show (if isS g = true then _ else _) = _; rw [hS]; simp
        rw [HE.out]
        have hb2 : y < 56320 ∨ 57343 < y := by simp [isS] at hS; omega
        clear hub hc hF h3 hb hz hc5 hc6 e5 e6 hG hy hS
        rcases hb2 with hb2 | hb2
        · have d1 : decide (y < 56320) = true := decide_eq_true hb2
          clear hb2
          go_enter Try.func27, Try.ntmps27
          go_wp2_with (first
            | (go_at_call 36; (with_reducible refine (RF.out _).mono ?_); rintro e w' ⟨rfl, rfl⟩)
            | (go_at_call 36; (with_reducible refine (RG.out _).mono ?_); rintro e w' ⟨rfl, rfl⟩))
          go_ret2
          exact esc_no ⟨rfl, rfl⟩
        · have d1 : decide (y < 56320) = false := decide_eq_false (by omega)
          have d2 : decide (57343 < y) = true := decide_eq_true hb2
          clear hb2
          go_enter Try.func27, Try.ntmps27
          go_wp2_with (first
            | (go_at_call 36; (with_reducible refine (RF.out _).mono ?_); rintro e w' ⟨rfl, rfl⟩)
            | (go_at_call 36; (with_reducible refine (RG.out _).mono ?_); rintro e w' ⟨rfl, rfl⟩))
          go_ret2
          exact esc_no ⟨rfl, rfl⟩
      | true =>
        have HE : Hid (pairL f (some g) = (65536 + (f - 55296) * 1024 + (g - 56320), 12)) := by show (if isS g = true then _ else _) = _; rw [hS]; simp
        have hg : 56320 ≤ g ∧ g < 57344 := by simpa [isS] using hS
        have RL := Lib.hid (fun u => rlaid_any (65536 + (f - 55296) * 1024 + (g - 56320)) u (by unfold vr; omega))
        rw [show ((65536 + (f - 55296) * 1024 + (g - 56320) : Nat) : Int) = 65536 + (z - 55296) * 1024 + y - 56320 by omega] at RL
        rw [HE.out]
        generalize 65536 + (f - 55296) * 1024 + (g - 56320) = r at *
        have d1 : decide (y < 56320) = false := decide_eq_false (by omega)
        have d2 : decide (57343 < y) = false := decide_eq_false (by omega)
        have y0 : 56320 ≤ y := by omega
        have y1 : y ≤ 57343 := by omega
        have z0 : 55296 ≤ z := by omega
        have z1 : z ≤ 56319 := by omega
        clear hub hc hF h3 hb hz hc5 hc6 e5 e6 hG hy hS hg
        go_enter Try.func27, Try.ntmps27
        go_wp2_with (first
          | (go_at_call 36; (with_reducible refine (RF.out _).mono ?_); rintro e w' ⟨rfl, rfl⟩)
          | (go_at_call 36; (with_reducible refine (RG.out _).mono ?_); rintro e w' ⟨rfl, rfl⟩)
          | (go_at_call 37; (with_reducible refine (RL.out _).mono ?_); rintro e w' ⟨rfl, rfl⟩))
        go_ret2
        exact .inr ⟨by simp, rfl, rfl⟩
  · rw [if_pos (by
      by_cases h : c5 = 92
      · refine .inr (.inr fun e => h5 ⟨h, ?_⟩)
        rw [← hc6, e]; rfl
      · refine .inr (.inl fun e => h ?_)
        rw [← hc5, e]; rfl)] at hub
    have HE : Hid (pairL f (unitL (s.data.toList.drop (p + 6))) = (0, 0)) := by show _ = _; rw [hub.out]; rfl
    rw [HE.out]
    have hb5 : ((c5 : Int) != 92) = true ∨ (((c5 : Int) != 92) = false ∧ ((c6 : Int) != 117) = true) := by
      by_cases h : c5 = 92
      · right
        refine ⟨by simp [h], ?_⟩
        have : c6 ≠ 117 := fun e => h5 ⟨h, e⟩
        simp; omega
      · left; simp; omega
    clear hub hc hF h3 hb hz hc5 hc6 h5
    rcases hb5 with hb5 | ⟨hb5, hb6⟩
    all_goals
      go_enter Try.func27, Try.ntmps27
      go_wp2_with (go_at_call 36; (with_reducible refine (RF.out _).mono ?_); rintro e w' ⟨rfl, rfl⟩)
      go_ret2
      exact esc_no ⟨rfl, rfl⟩

theorem resc_any (s : ByteArray) (p : Nat) (w : World) (hs : s.size ≤ 140737488355328) (hp : p < s.size) (h92 : s[p] = 92) :
    Calls Try.prog 27 #[.string s, .int .i64 ((p : Int) + 1)] w (EscRet (escL (s.data.toList.drop p)) w) := by
  have hll : (s.data.toList.drop p).length = s.size - p := by rw [List.length_drop, sz]
  by_cases h2 : p + 1 < s.size
  · have hg : (s.data.toList.drop p).getD 1 0 = s[p + 1] := by rw [Lib.getD_dropU, byte_getD s (p + 1) h2]
    have hg0 : (s.data.toList.drop p).getD 0 0 = 92 := by rw [Lib.getD_dropU, Nat.add_zero, ← byte_getD s p hp]; exact h92
    have hn : ¬ (s.data.toList.drop p).length < 2 := by omega
    rcases esc_class s[p + 1] with (hc | hc | hc) | hc | hc | hc | hc | hc | hc | ⟨k1, k2, k3, k4, k5, k6, k7, k8, k9, k10, k11, k12⟩
    · rw [show escL (s.data.toList.drop p) = (34, 2) by unfold escL; rw [if_neg hn, hg, hc]; simp]; exact resc_34 s p w hs h2 hc
    · rw [show escL (s.data.toList.drop p) = (92, 2) by unfold escL; rw [if_neg hn, hg, hc]; simp]; exact resc_92 s p w hs h2 hc
    · rw [show escL (s.data.toList.drop p) = (47, 2) by unfold escL; rw [if_neg hn, hg, hc]; simp]; exact resc_47 s p w hs h2 hc
    · have he : escL (s.data.toList.drop p) = numL (s.data.toList.drop p) := by unfold escL; rw [if_neg hn, hg, hc, if_neg (by decide), if_pos rfl]
      have hu : unitL (s.data.toList.drop p) = fourL (s.data.toList.drop (p + 2)) := by
        rw [unit_by_four, if_neg (by rw [hg, hg0, hc]; simp; omega), List.drop_drop]
      rw [he]
      unfold numL
      rw [hu, List.drop_drop]
      cases hF : fourL (s.data.toList.drop (p + 2)) with
      | none => exact resc_u0 s p w hs h2 hc none hF (.inl rfl)
      | some f =>
        cases hS : isS f with
        | true => simp only [hS, if_true]; exact resc_u0 s p w hs h2 hc _ hF (.inr ⟨f, rfl, hS⟩)
        | false =>
          cases hI : isF f with
          | false => simp only [hS, hI, Bool.false_eq_true, if_false]; exact resc_u1 s p w hs h2 hc f hF hS hI
          | true =>
            have := resc_u2 s p w hs h2 hc f hF hI
            simp only [hS, hI, Bool.false_eq_true, if_false, if_true]
            exact this
    · rw [show escL (s.data.toList.drop p) = (8, 2) by unfold escL; rw [if_neg hn, hg, hc]; simp]; exact resc_98 s p w hs h2 hc
    · rw [show escL (s.data.toList.drop p) = (9, 2) by unfold escL; rw [if_neg hn, hg, hc]; simp]; exact resc_116 s p w hs h2 hc
    · rw [show escL (s.data.toList.drop p) = (10, 2) by unfold escL; rw [if_neg hn, hg, hc]; simp]; exact resc_110 s p w hs h2 hc
    · rw [show escL (s.data.toList.drop p) = (12, 2) by unfold escL; rw [if_neg hn, hg, hc]; simp]; exact resc_102 s p w hs h2 hc
    · rw [show escL (s.data.toList.drop p) = (13, 2) by unfold escL; rw [if_neg hn, hg, hc]; simp]; exact resc_114 s p w hs h2 hc
    · rw [show escL (s.data.toList.drop p) = (0, 0) by unfold escL; rw [if_neg hn, hg, if_neg k6, if_neg k7, if_neg k8, if_neg k9, if_neg k10, if_neg k11, if_neg k12]]
      exact resc_none s p w hs h2 _ rfl k1 k2 k3 k4 (u8_ne 98 (by decide) k8) (u8_ne 116 (by decide) k9) (u8_ne 110 (by decide) k10) (u8_ne 102 (by decide) k11) (u8_ne 114 (by decide) k12)
  · rw [show escL (s.data.toList.drop p) = (0, 0) by unfold escL; rw [if_pos (by omega)]]
    exact resc_end s p w hs h2
end Go.Proofs.Ytfkdepjioleakaa
