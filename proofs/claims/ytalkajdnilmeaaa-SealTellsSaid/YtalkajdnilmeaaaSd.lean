import Derived.Test.YtalkajdnilmeaaaSc
import Derived.BigRegion
/- Layer 6: the walk of the law SealForth. -/
set_option linter.unusedVariables false
set_option linter.unusedSimpArgs false
namespace Go.Proofs.Ytalkajdnilmeaaa.Se
open Go.RowKit

theorem bcell {W w1 : World} (hb : Below W.heap.size W w1) : (∀ b o, b < W.heap.size → w1.cell? ⟨b, o, none⟩ = W.cell? ⟨b, o, none⟩) ∧ (∀ b o, b < W.heap.size → w1.frozen? ⟨b, o, none⟩ = W.frozen? ⟨b, o, none⟩) :=
  ⟨fun b o h => hb.cell (p := ⟨b, o, none⟩) h, fun b o h => hb.frozen (p := ⟨b, o, none⟩) h⟩
theorem open_bs (t : ByteArray) (w : World) (hs : t.size ≤ 281474976710656) :
    Calls Try.prog 12 #[.string t] w (Ret (openV (openS t.data.toList)) w) := by
  have := open_any t.data.toList w (by rw [sz]; exact hs)
  rwa [← bs_self] at this
theorem openS_len {L U : List UInt8} (h : openS L = some U) : U.length + 9 = L.length := by
  have := congrArg List.length (seal_open h)
  rw [sealS_len] at this
  exact this

set_option maxHeartbeats 4000000 in
set_option maxRecDepth 100000 in
theorem lforth_walk (t : List UInt8) (at0 : Int) (m : List UInt8) (w : World) (h : t.length ≤ 140737488351232) (a0 : -9223372036854775808 ≤ at0) (a1 : at0 ≤ 9223372036854775807) (h2 : m.length ≤ 140737488351232) :
    Calls Try.prog 5 #[.string ⟨t.toArray⟩, .int .i64 at0, .string ⟨m.toArray⟩] w (Ret (.bool true) w) := by
  have C1 := Lib.hid (fun u => seal_l t u (by omega))
  have hq : (⟨(sealS t).toArray⟩ : ByteArray).size = t.length + 9 := by rw [bs_size, sealS_len]
  have hs : (⟨t.toArray⟩ : ByteArray).size = t.length := bs_size t
  have hm : (⟨m.toArray⟩ : ByteArray).size = m.length := bs_size m
  have pk0 := pickS_nonneg (c := at0) (n := (t.length : Int) + 9 + 1) (by omega)
  have pk1 := pickS_lt (c := at0) (n := (t.length : Int) + 9 + 1) (by omega)
  have PK := Lib.hid (fun u => pick_any at0 ((t.length : Int) + 9 + 1) u a0 a1 (by omega) (by omega))
  generalize pickS at0 ((t.length : Int) + 9 + 1) = z at *
  obtain ⟨k, rfl⟩ := Int.eq_ofNat_of_zero_le pk0
  have hk : (k : Int) ≤ (t.length : Int) + 9 := by omega
  have hk2 : k ≤ t.length + 9 := by omega
  generalize (⟨(sealS t).toArray⟩ : ByteArray) = q at *
  generalize (⟨t.toArray⟩ : ByteArray) = s at *
  generalize (⟨m.toArray⟩ : ByteArray) = more at *
  generalize t.length = n at *
  generalize m.length = M at *
  clear pk0 pk1
  have l1 : (q.extract 0 k).size ≤ n + 9 := by rw [ByteArray.size_extract]; omega
  go_enter Try.func5, Try.ntmps5
  go_wp2_with (go_at_call 9; (with_reducible refine (awake_any _).mono ?_); rintro e w1 ⟨rfl, hb1⟩)
  go_wp2_with (go_at_call 14; (with_reducible refine (C1.out _).mono ?_); rintro e w2 ⟨rfl, hb2⟩)
  go_wp2_with (go_at_call 11; (with_reducible refine (PK.out _).mono ?_); rintro e w3 ⟨rfl, rfl⟩)
  have hbb := below2 hb1 hb2
  clear C1 PK hb1 hb2 a0 a1
  go_region
  have hX : (q.extract 0 k ++ more ++ q.extract (if (n : Int) + 9 < (k : Int) + (M : Int) then (n : Int) + 9 else (k : Int) + (M : Int)).toNat (n + 9)).size ≤ 281474976710656 := by
    rw [ByteArray.size_append, ByteArray.size_append, ByteArray.size_extract, ByteArray.size_extract]
    split <;> omega
  have hs0 : s.size ≤ 281474976710656 := by omega
  generalize (if (n : Int) + 9 < (k : Int) + (M : Int) then (n : Int) + 9 else (k : Int) + (M : Int)) = mi at *
  generalize (q.extract 0 k ++ more ++ q.extract mi.toNat (n + 9)) = X1 at *
  have hA : Below w.heap.size w (w2.alloc (.cells #[.string s, .string X1] 9)).drew := (hbb.alloc hbb.size _).drew
  have HC : Hid (∀ j, j < 2 → ∃ x, (w2.alloc (.cells #[.string s, .string X1] 9)).drew.cell? ⟨w2.heap.size, j, none⟩ = some (.string x) ∧ x.size ≤ 281474976710656) := fun j hj => by
    have : j = 0 ∨ j = 1 := by omega
    rcases this with rfl | rfl
    · exact ⟨s, by simp, hs0⟩
    · exact ⟨X1, by simp, hX⟩
  have hbs : w2.heap.size < (w2.alloc (.cells #[.string s, .string X1] 9)).drew.heap.size := by simp
  generalize (w2.alloc (.cells #[.string s, .string X1] 9)).drew = wA at *
  clear hX hs0 hs hm hq l1 hk hk2
  go_wp2_with fail
  go_loopw [40] (fun iv wr => ∃ j : Nat, j ≤ 2 ∧ iv = .int .i64 j ∧ Below wA.heap.size wA wr) (fun iv _ => 2 - (intOf iv).toNat)
  case atStart => exact ⟨0, by omega, rfl, Below.refl _ _⟩
  case round =>
    obtain ⟨j, hj, rfl, hbr⟩ := hrel
    have hbw : Below w.heap.size w wr := hA.trans (hbr.mono hA.size)
    have hz : wA.heap.size ≤ wr.heap.size := hbr.size
    by_cases hlt : j < 2
    · obtain ⟨x, hcell, hx⟩ := HC.out j hlt
      rw [← (bcell hbr).1 _ _ hbs] at hcell
      have O1 := Lib.hid (fun u => open_bs x u hx)
      cases ho : openS x.data.toList with
      | none =>
        rw [ho] at O1
        unfold openV at O1
        clear ho
        go_wp2_with (go_at_call 12; (with_reducible refine (O1.out _).mono ?_); rintro e w5 ⟨rfl, hb5⟩)
        go_roundw
        case rel => exact ⟨j + 1, by omega, by go_num, hbr.trans (hb5.mono hz)⟩
        case measure => simp [intOf]; omega
      | some U =>
        rw [ho] at O1
        have O1 : Hid (∀ u : World, Calls Try.prog 12 #[.string x] u (Ret (.tuple #[.string ⟨U.toArray⟩, .int .i64 0]) u)) := O1.out
        have hU := openS_len ho
        rw [sz] at hU
        have S1 := Lib.hid (fun u => seal_l U u (by omega))
        rw [seal_open ho, ← bs_self] at S1
        clear ho hU
        generalize (⟨U.toArray⟩ : ByteArray) = y at *
        go_wp2_with (first | (go_at_call 12; (with_reducible refine (O1.out _).mono ?_); rintro e w5 ⟨rfl, hb5⟩) | (go_at_call 14; (with_reducible refine (S1.out _).mono ?_); rintro e w6 ⟨rfl, hb6⟩))
        go_roundw
        case rel => exact ⟨j + 1, by omega, by go_num, hbr.trans ((below2 hb5 hb6).mono hz)⟩
        case measure => simp [intOf]; omega
    · go_wp2_with fail
      go_ret
      exact ⟨rfl, hbw⟩
end Go.Proofs.Ytalkajdnilmeaaa.Se
