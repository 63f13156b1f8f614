import Derived.Test.YtnjcfnmdelpecaaTi
import Derived.BigRegion
/- Layer 7: the walk of the law TopicForth. -/
set_option linter.unusedVariables false
set_option linter.unusedSimpArgs false
namespace Go.Proofs.Ytnjcfnmdelpecaa.Tp
open Go.RowKit

theorem some_small {L m s k : List UInt8} (h : parseS L = some (m, s, k)) : m.length ≤ reachN ∧ s.length ≤ reachN ∧ k.length ≤ reachN := by
  have ho := (printS_some.1 (parse_iff.1 h)).1
  have h1 := (name_len (okT_m ho)).2
  have h2 := (name_len (okT_s ho)).2
  have h3 := kind_len (okT_k ho)
  exact ⟨reach_small (by omega), reach_small (by omega), reach_small (by omega)⟩

theorem below_r {W w1 w2 : World} {b : Nat} {o : Obj} (h1 : Below b W w1) (hb : b ≤ w1.heap.size) (h2 : Below w1.heap.size w1 w2) : Below b W (w2.alloc o) := (h1.trans (h2.mono hb)).alloc (Nat.le_trans hb h2.size) o
theorem below_r2 {W w1 w2 : World} {b : Nat} {o : Obj} (h1 : Below b W w1) (hb : b ≤ w1.heap.size) (h2 : Below (w1.alloc o).heap.size (w1.alloc o) w2) : Below b W w2 := (h1.alloc hb o).trans (h2.mono (by simp; omega))

set_option maxHeartbeats 4000000 in
set_option maxRecDepth 100000 in
theorem lforth_walk (s mk : List UInt8) (c at0 : Int) (m : List UInt8) (w : World) (hs : s.length ≤ 140737488351232) (hmk : mk.length ≤ 140737488351232) (c0 : -9223372036854775808 ≤ c) (c1 : c ≤ 9223372036854775807)
    (a0 : -9223372036854775808 ≤ at0) (a1 : at0 ≤ 9223372036854775807) (h2 : m.length ≤ 140737488351232) :
    Calls Try.prog 5 #[.string ⟨s.toArray⟩, .string ⟨mk.toArray⟩, .int .i64 c, .int .i64 at0, .string ⟨m.toArray⟩] w (Ret (.bool true) w) := by
  have C0 := Lib.hid (fun u => awake_any u)
  have C1 := Lib.hid (fun u => Topic_any mk s c u (by unfold reachN; omega) (by unfold reachN; omega) c0 c1)
  have hok := fit_ok mk s (kindN_lt c)
  have hp : printS (fitL mk) (fitL s) (kindL (kindN c)) = some (printL (fitL mk) (fitL s) (kindL (kindN c))) := printS_some.2 ⟨hok, rfl⟩
  have C2 := Lib.hid (fun u => print_some hp u (fit_len mk) (fit_len s) (kindL_len _))
  unfold topicV at C1
  have hpl := print_reach hp
  clear hp hok
  generalize printL (fitL mk) (fitL s) (kindL (kindN c)) = P at *
  generalize (⟨(fitL mk).toArray⟩ : ByteArray) = FM at *
  generalize (⟨(fitL s).toArray⟩ : ByteArray) = FS at *
  generalize (⟨(kindL (kindN c)).toArray⟩ : ByteArray) = FK at *
  generalize (⟨mk.toArray⟩ : ByteArray) = MK at *
  have hq : (⟨P.toArray⟩ : ByteArray).size = P.length := bs_size P
  have hsz : (⟨s.toArray⟩ : ByteArray).size = s.length := bs_size s
  have hm : (⟨m.toArray⟩ : ByteArray).size = m.length := bs_size m
  have pk0 := pickS_nonneg (c := at0) (n := (P.length : Int) + 1) (by omega)
  have pk1 := pickS_lt (c := at0) (n := (P.length : Int) + 1) (by omega)
  have PK := Lib.hid (fun u => pick_any at0 ((P.length : Int) + 1) u a0 a1 (by omega) (by omega))
  generalize pickS at0 ((P.length : Int) + 1) = z at *
  obtain ⟨k, rfl⟩ := Int.eq_ofNat_of_zero_le pk0
  have hk : (k : Int) ≤ (P.length : Int) := by omega
  have hk2 : k ≤ P.length := by omega
  generalize (⟨P.toArray⟩ : ByteArray) = q at *
  generalize (⟨s.toArray⟩ : ByteArray) = sv at *
  generalize (⟨m.toArray⟩ : ByteArray) = more at *
  generalize P.length = n at *
  generalize m.length = M at *
  generalize s.length = sn at *
  clear pk0 pk1 hmk
  have l1 : (q.extract 0 k).size ≤ n := by rw [ByteArray.size_extract]; omega
  go_enter Try.func5, Try.ntmps5
  go_wp2_with (go_at_call 10; (with_reducible refine (C0.out _).mono ?_); rintro e w1 ⟨rfl, hb1⟩; have Y1 := Lib.hid hb1; clear hb1)
  go_wp2_with (go_at_call 11; (with_reducible refine (C1.out _).mono ?_); rintro e w2 ⟨rfl, hb2⟩; have Y2 := Lib.hid (below2 Y1.out hb2); clear hb2)
  go_wp2_with (go_at_call 14; (with_reducible refine (C2.out _).mono ?_); rintro e w3 ⟨rfl, hb3⟩; have Y3 := Lib.hid (below2 Y2.out hb3); clear hb3)
  go_wp2_with (go_at_call 13; (with_reducible refine (PK.out _).mono ?_); rintro e w4 ⟨rfl, rfl⟩)
  clear C0 C1 C2 PK Y1 Y2 a0 a1 c0 c1
  have hbb := Y3.out
  go_region
  have hX : (q.extract 0 k ++ more ++ q.extract (min ((k : Int) + (M : Int)) (n : Int)).toNat n).size ≤ 140737488355328 := by
    rw [ByteArray.size_append, ByteArray.size_append, ByteArray.size_extract, ByteArray.size_extract]
    omega
  have hX2 : (q.extract 0 k ++ more ++ q.extract k n).size ≤ 140737488355328 := by
    rw [ByteArray.size_append, ByteArray.size_append, ByteArray.size_extract, ByteArray.size_extract]
    omega
  have hs0 : sv.size ≤ 140737488355328 := by omega
  generalize (min ((k : Int) + (M : Int)) (n : Int)).toNat = mi at *
  generalize (q.extract 0 k ++ more ++ q.extract mi n) = X1 at *
  generalize (q.extract 0 k ++ more ++ q.extract k n) = X2 at *
  have HA : Hid (Below w.heap.size w (w3.alloc (.cells #[.string sv, .string X1, .string X2] 9)).drew) := (hbb.alloc hbb.size _).drew
  have HC : Hid (∀ j, j < 3 → ∃ x, (w3.alloc (.cells #[.string sv, .string X1, .string X2] 9)).drew.cell? ⟨w3.heap.size, j, none⟩ = some (.string x) ∧ x.size ≤ 140737488355328) := fun j hj => by
    have : j = 0 ∨ j = 1 ∨ j = 2 := by omega
    rcases this with rfl | rfl | rfl
    · exact ⟨sv, by simp, hs0⟩
    · exact ⟨X1, by simp, hX⟩
    · exact ⟨X2, by simp, hX2⟩
  have HBS : Hid (w3.heap.size < (w3.alloc (.cells #[.string sv, .string X1, .string X2] 9)).drew.heap.size) := by show _ < _; simp
  generalize (w3.alloc (.cells #[.string sv, .string X1, .string X2] 9)).drew = wA at *
  clear hX hX2 hs0 hs hm hq l1 hk hk2 hsz hbb Y3 hpl h2
  generalize w3.heap.size = bA at *
  go_wp2_with fail
  go_loopw [62] (fun iv wr => ∃ j : Nat, j ≤ 3 ∧ iv = .int .i64 j ∧ Hid (Below wA.heap.size wA wr)) (fun iv _ => 3 - (intOf iv).toNat)
  case atStart => exact ⟨0, by omega, rfl, Below.refl _ _⟩
  case round =>
    obtain ⟨j, hj, rfl, hbr⟩ := hrel
    by_cases hlt : j < 3
    · obtain ⟨x, hcell, hx⟩ := HC.out j hlt
      have HZ : Hid (wA.heap.size ≤ wr.heap.size) := hbr.out.size
      rw [← (bcell hbr.out).1 _ _ HBS.out] at hcell
      obtain ⟨L, rfl⟩ : ∃ L : List UInt8, x = ⟨L.toArray⟩ := ⟨_, bs_self x⟩
      rw [bs_size] at hx
      cases ho : parseS L with
      | none =>
        have O1 := Lib.hid (fun u => parse_none ho u hx)
        clear ho hx
        generalize (⟨L.toArray⟩ : ByteArray) = y at *
        go_wp2_with (go_at_call 17; (with_reducible refine (O1.out _).mono ?_); rintro e w5 ⟨rfl, hb5⟩; have Z5 := Lib.hid (below_r (o := .cells #[.string ⟨#[]⟩, .string ⟨#[]⟩, .string ⟨#[]⟩] 23) hbr.out HZ.out hb5); clear hb5)
        go_roundw
        case rel => exact ⟨j + 1, by omega, by go_num, Z5⟩
        case measure => simp [intOf]; omega
      | some U =>
        obtain ⟨tm, ts, tk⟩ := U
        have O1 := Lib.hid (fun u => parse_some ho u hx)
        obtain ⟨s1, s2, s3⟩ := some_small ho
        have S1 := Lib.hid (fun u => print_some (parse_iff.1 ho) u s1 s2 s3)
        clear ho hx s1 s2 s3
        generalize (⟨L.toArray⟩ : ByteArray) = y at *
        generalize (⟨tm.toArray⟩ : ByteArray) = TM at *
        generalize (⟨ts.toArray⟩ : ByteArray) = TS at *
        generalize (⟨tk.toArray⟩ : ByteArray) = TK at *
        go_wp2_with (first | (go_at_call 17; (with_reducible refine (O1.out _).mono ?_); rintro e w5 ⟨rfl, hb5⟩; have Z5 := Lib.hid (hbr.out.trans (hb5.mono HZ.out)); have HZ5 := Lib.hid (Nat.le_trans HZ.out hb5.size); clear hb5) | (go_at_call 14; (with_reducible refine (S1.out _).mono ?_); rintro e w6 ⟨rfl, hb6⟩; have Z6 := Lib.hid (below_r2 Z5.out HZ5.out hb6); clear hb6))
        go_roundw
        case rel => exact ⟨j + 1, by omega, by go_num, Z6⟩
        case measure => simp [intOf]; omega
    · have HW : Hid (Below w.heap.size w wr) := HA.out.trans (hbr.out.mono HA.out.size)
      go_wp2_with fail
      go_ret
      exact ⟨rfl, HW.out⟩
end Go.Proofs.Ytnjcfnmdelpecaa.Tp
