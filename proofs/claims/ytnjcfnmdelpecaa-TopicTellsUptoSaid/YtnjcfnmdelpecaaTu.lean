import Derived.Test.YtnjcfnmdelpecaaTt
import Derived.Test.YtnjcfnmdelpecaaTn
/- Layer 7: the walk of the law TopicTells. -/
set_option linter.unusedVariables false
set_option linter.unusedSimpArgs false
namespace Go.Proofs.Ytnjcfnmdelpecaa.Tp
open Go.RowKit Go.Proofs.Ytnjcfnmdelpecaa.Own

theorem partsL_len : ∀ l : List UInt8, (partsL l).length ≤ l.length + 1
  | [] => by simp [partsL]
  | c :: r => by
    have h := partsL_len r
    rw [partsL]
    by_cases e : c = 47
    · rw [if_pos e]; simp; omega
    · rw [if_neg e]
      obtain ⟨p, ps, eq⟩ := partsL_cons (l := r)
      rw [eq] at h ⊢
      simp at h ⊢
      omega
theorem printV_form (x : Option (List UInt8)) : ∃ (U : ByteArray) (e : Int), printV x = .tuple #[.string U, .int .i64 e] := by
  cases x with
  | none => exact ⟨_, _, rfl⟩
  | some z => exact ⟨_, _, rfl⟩
theorem parseV_form (x : Option (List UInt8 × List UInt8 × List UInt8)) : ∃ (a b c : ByteArray) (e : Int), parseV x = .tuple #[.agg #[.string a, .string b, .string c], .int .i64 e] := by
  cases x with
  | none => exact ⟨_, _, _, _, rfl⟩
  | some z => obtain ⟨m, s, k⟩ := z; exact ⟨_, _, _, _, rfl⟩
theorem rmatch_is {f z : List UInt8} {b : Bool} (h : matchS f z = b) (w : World) (hf : f.length ≤ 2000000) (hz : z.length ≤ 2000000) :
    Calls Try.prog 20 #[.string ⟨f.toArray⟩, .string ⟨z.toArray⟩] w (Ret (.bool b) w) := by
  have h1 := partsL_len f
  have h2 := partsL_len z
  have := rMatch_any f z w hf hz (by omega) (by omega)
  rwa [h] at this

set_option maxHeartbeats 8000000 in
set_option maxRecDepth 100000 in
theorem ltells_walk (tm ts tk s fl mk : List UInt8) (c at0 : Int) (m : List UInt8) (w : World) (h1 : tm.length ≤ 1048576) (h2 : ts.length ≤ 1048576) (h3 : tk.length ≤ 1048576) (hs : s.length ≤ 1048576) (hfl : fl.length ≤ 1048576) (hmk : mk.length ≤ 1048576)
    (c0 : -9223372036854775808 ≤ c) (c1 : c ≤ 9223372036854775807) (a0 : -9223372036854775808 ≤ at0) (a1 : at0 ≤ 9223372036854775807) (hmo : m.length ≤ 1048576) :
    Calls Try.prog 3 #[topicV tm ts tk, .string ⟨s.toArray⟩, .string ⟨fl.toArray⟩, .string ⟨mk.toArray⟩, .int .i64 c, .int .i64 at0, .string ⟨m.toArray⟩] w (Ret (.bool true) w) := by
  have C0 := Lib.hid (fun u => awake_any u)
  have C1 := Lib.hid (fun u => Topic_any mk s c u (by unfold reachN; omega) (by unfold reachN; omega) c0 c1)
  have hok := fit_ok mk s (kindN_lt c)
  have hp : printS (fitL mk) (fitL s) (kindL (kindN c)) = some (printL (fitL mk) (fitL s) (kindL (kindN c))) := printS_some.2 ⟨hok, rfl⟩
  have C2 := Lib.hid (fun u => rprint_some hp u (fit_len mk) (fit_len s) (kindL_len _))
  have C3 := Lib.hid (fun u => Print_any tm ts tk u (by unfold reachN; omega) (by unfold reachN; omega) (by unfold reachN; omega))
  have C4 := Lib.hid (fun u => rPrint_any tm ts tk u (by unfold reachN; omega) (by unfold reachN; omega) (by unfold reachN; omega))
  have C5 := Lib.hid (fun u => name_is (l := s) rfl u (by unfold reachN; omega))
  have C6 := Lib.hid (fun u => rname_is (l := s) rfl u (by unfold reachN; omega))
  obtain ⟨PU, pe, hpe⟩ := printV_form (printS tm ts tk)
  rw [hpe] at C3 C4
  clear hpe
  generalize nameB s = qn at *
  unfold topicV at *
  have hpl := print_reach hp
  clear hp hok
  generalize printL (fitL mk) (fitL s) (kindL (kindN c)) = P at *
  generalize (⟨(fitL mk).toArray⟩ : ByteArray) = FM at *
  generalize (⟨(fitL s).toArray⟩ : ByteArray) = FS at *
  generalize (⟨(kindL (kindN c)).toArray⟩ : ByteArray) = FK at *
  generalize (⟨mk.toArray⟩ : ByteArray) = MK at *
  generalize (⟨tm.toArray⟩ : ByteArray) = TM at *
  generalize (⟨ts.toArray⟩ : ByteArray) = TS at *
  generalize (⟨tk.toArray⟩ : ByteArray) = TK at *
  have hq : (⟨P.toArray⟩ : ByteArray).size = P.length := bs_size P
  have hsz : (⟨s.toArray⟩ : ByteArray).size = s.length := bs_size s
  have hm : (⟨m.toArray⟩ : ByteArray).size = m.length := bs_size m
  have pk0 := pickS_nonneg (c := at0) (n := (P.length : Int) + 1) (by omega)
  have pk1 := pickS_lt (c := at0) (n := (P.length : Int) + 1) (by omega)
  have PK := Lib.hid (fun u => pick_any at0 ((P.length : Int) + 1) u a0 a1 (by omega) (by omega))
  generalize pickS at0 ((P.length : Int) + 1) = z at *
  obtain ⟨k, rfl⟩ := Int.eq_ofNat_of_zero_le pk0
  have hk : (k : Int) ≤ (P.length : Int) := by omega
  have hk2 : k ≤ P.length := by omega
  generalize (⟨P.toArray⟩ : ByteArray) = q at *
  generalize (⟨s.toArray⟩ : ByteArray) = sv at *
  generalize (⟨m.toArray⟩ : ByteArray) = more at *
  obtain ⟨FV, hFV⟩ : ∃ FV : ByteArray, (⟨fl.toArray⟩ : ByteArray) = FV := ⟨_, rfl⟩
  have HFV := Lib.hid hFV
  rw [hFV]
  clear hFV
  generalize P.length = n at *
  generalize m.length = M at *
  generalize s.length = sn at *
  clear pk0 pk1 hmk h1 h2 h3
  have l1 : (q.extract 0 k).size ≤ n := by rw [ByteArray.size_extract]; omega
  go_enter Try.func3, Try.ntmps3
  go_wp2_with (go_at_call 10; (with_reducible refine (C0.out _).mono ?_); rintro e w1 ⟨rfl, hb1⟩; have A1 := Lib.hid ((TAt.new w _ _ _ _).below hb1); have Y1 := Lib.hid (below_a (Below.refl _ w) hb1); clear hb1)
  go_wp2_with (go_at_call 11; (with_reducible refine (C1.out _).mono ?_); rintro e w2 ⟨rfl, hb2⟩; have A2 := Lib.hid (A1.out.below hb2); have Y2 := Lib.hid (below2 Y1.out hb2); clear hb2)
  go_wp2_with (go_at_call 12; (with_reducible refine (C2.out _).mono ?_); rintro e w3 ⟨rfl, hb3⟩; have A3 := Lib.hid ((A2.out.alloc _).below hb3); obtain ⟨⟨g0, _⟩, ⟨g1, _⟩, ⟨g2, _⟩, hlt0⟩ := (A2.out.alloc _).below hb3; have Y3 := Lib.hid (below_a Y2.out hb3); clear hb3)
  go_wp2_with (go_at_call 13; (with_reducible refine (PK.out _).mono ?_); rintro e w4 ⟨rfl, rfl⟩)
  go_wp2_with (go_at_call 14; (with_reducible refine (C3.out _).mono ?_); rintro e w4 ⟨rfl, hb4⟩; obtain ⟨⟨g3, _⟩, ⟨g4, _⟩, ⟨g5, _⟩, hlt1⟩ := A3.out.below hb4; have Y4 := Lib.hid (below2 Y3.out hb4); clear hb4)
  go_wp2_with (first | (go_at_call 12; (with_reducible refine (C4.out _).mono ?_); rintro e w5 ⟨rfl, hb5⟩; have Y5 := Lib.hid (below2 Y4.out hb5); clear hb5) | (go_at_call 15; (with_reducible refine (C5.out _).mono ?_); rintro e w6 ⟨rfl, rfl⟩) | (go_at_call 16; (with_reducible refine (C6.out _).mono ?_); rintro e w6 ⟨rfl, rfl⟩))
  clear C0 C1 C2 C3 C4 C5 C6 PK Y1 Y2 Y3 Y4 A1 A2 A3 g0 g1 g2 g3 g4 g5 hlt0 hlt1 a0 a1 c0 c1
  have hbb := Y5.out
  go_region
  have hX : (q.extract 0 k ++ more ++ q.extract (min ((k : Int) + (M : Int)) (n : Int)).toNat n).size ≤ 2000000 := by
    rw [ByteArray.size_append, ByteArray.size_append, ByteArray.size_extract, ByteArray.size_extract]
    omega
  have hX2 : (q.extract 0 k ++ more ++ q.extract k n).size ≤ 2000000 := by
    rw [ByteArray.size_append, ByteArray.size_append, ByteArray.size_extract, ByteArray.size_extract]
    omega
  have hs0 : sv.size ≤ 2000000 := by omega
  have hq0 : q.size ≤ 2000000 := by omega
  generalize (min ((k : Int) + (M : Int)) (n : Int)).toNat = mi at *
  generalize (q.extract 0 k ++ more ++ q.extract mi n) = X1 at *
  generalize (q.extract 0 k ++ more ++ q.extract k n) = X2 at *
  have HA : Hid (Below w.heap.size w (w5.alloc (.cells #[.string sv, .string q, .string X1, .string X2] 9)).drew) := (hbb.alloc hbb.size _).drew
  have HC : Hid (∀ j, j < 4 → ∃ x, (w5.alloc (.cells #[.string sv, .string q, .string X1, .string X2] 9)).drew.cell? ⟨w5.heap.size, j, none⟩ = some (.string x) ∧ x.size ≤ 2000000) := fun j hj => by
    have : j = 0 ∨ j = 1 ∨ j = 2 ∨ j = 3 := by omega
    rcases this with rfl | rfl | rfl | rfl
    · exact ⟨sv, by simp, hs0⟩
    · exact ⟨q, by simp, hq0⟩
    · exact ⟨X1, by simp, hX⟩
    · exact ⟨X2, by simp, hX2⟩
  have HBS : Hid (w5.heap.size < (w5.alloc (.cells #[.string sv, .string q, .string X1, .string X2] 9)).drew.heap.size) := by show _ < _; simp
  generalize (w5.alloc (.cells #[.string sv, .string q, .string X1, .string X2] 9)).drew = wA at *
  clear hX hX2 hs0 hq0 hs hm hq l1 hk hk2 hsz hbb Y5 hpl hmo
  generalize w5.heap.size = bA at *
  go_wp2_with fail
  go_loopw [98] (fun iv wr => ∃ j : Nat, j ≤ 4 ∧ iv = .int .i64 j ∧ Hid (Below wA.heap.size wA wr)) (fun iv _ => 4 - (intOf iv).toNat)
  case atStart => exact ⟨0, by omega, rfl, Below.refl _ _⟩
  case round =>
    obtain ⟨j, hj, rfl, hbr⟩ := hrel
    by_cases hlt : j < 4
    · obtain ⟨x, hcell, hx⟩ := HC.out j hlt
      have HZ : Hid (wA.heap.size ≤ wr.heap.size) := hbr.out.size
      rw [← (bcell hbr.out).1 _ _ HBS.out] at hcell
      obtain ⟨L, rfl⟩ : ∃ L : List UInt8, x = ⟨L.toArray⟩ := ⟨_, bs_self x⟩
      rw [bs_size] at hx
      have O1 := Lib.hid (fun u => Parse_any L u (by unfold reachN; omega))
      have O2 := Lib.hid (fun u => rParse_any L u hx)
      obtain ⟨va, vb, vc, ve, hve⟩ := parseV_form (parseS L)
      rw [hve] at O1 O2
      clear hve
      have M1 := Lib.hid (fun u => match_is (f := fl) (z := L) rfl u (by unfold reachN; omega) (by unfold reachN; omega))
      have M2 := Lib.hid (fun u => rmatch_is (f := fl) (z := L) rfl u (by omega) hx)
      have M3 := Lib.hid (fun u => match_is (f := L) (z := fl) rfl u (by unfold reachN; omega) (by unfold reachN; omega))
      have M4 := Lib.hid (fun u => rmatch_is (f := L) (z := fl) rfl u hx (by omega))
      rw [HFV.out] at M1 M2 M3 M4
      generalize matchS fl L = q1 at *
      generalize matchS L fl = q2 at *
      clear hx
      generalize (⟨L.toArray⟩ : ByteArray) = y at *
      go_wp2_with (first | (go_at_call 17; (with_reducible refine (O1.out _).mono ?_); rintro e w6 ⟨rfl, hb6⟩; have Z6 := Lib.hid (hbr.out.trans (hb6.mono HZ.out)); have HZ6 := Lib.hid (Nat.le_trans HZ.out hb6.size); clear hb6) | (go_at_call 18; (with_reducible refine (O2.out _).mono ?_); rintro e w7 ⟨rfl, hb7⟩; obtain ⟨⟨g0, _⟩, ⟨g1, _⟩, ⟨g2, _⟩, hlt7⟩ := (TAt.new w6 _ _ _ _).below hb7; have Z7 := Lib.hid (below_r2 Z6.out HZ6.out hb7); have HZ7 := Lib.hid (Nat.le_trans HZ6.out (Nat.le_trans (by simp) hb7.size)); clear hb7))
      go_wp2_with (first | (go_at_call 19; (with_reducible refine (M1.out _).mono ?_); rintro e v1 ⟨rfl, hb1⟩; have V1 := Lib.hid (below_r2 Z7.out HZ7.out hb1); have HV1 := Lib.hid (Nat.le_trans HZ7.out (Nat.le_trans (by simp) hb1.size)); clear hb1) | (go_at_call 20; (with_reducible refine (M2.out _).mono ?_); rintro e v2 ⟨rfl, hb2⟩; have V2 := Lib.hid (V1.out.trans (hb2.mono HV1.out)); have HV2 := Lib.hid (Nat.le_trans HV1.out hb2.size); clear hb2) | (go_at_call 19; (with_reducible refine (M3.out _).mono ?_); rintro e v3 ⟨rfl, hb3⟩; have V3 := Lib.hid (V2.out.trans (hb3.mono HV2.out)); have HV3 := Lib.hid (Nat.le_trans HV2.out hb3.size); clear hb3) | (go_at_call 20; (with_reducible refine (M4.out _).mono ?_); rintro e v4 ⟨rfl, hb4⟩; have V4 := Lib.hid (V3.out.trans (hb4.mono HV3.out)); clear hb4))
      go_roundw
      case rel => exact ⟨j + 1, by omega, by go_num, V4⟩
      case measure => simp [intOf]; omega
    · have HW : Hid (Below w.heap.size w wr) := HA.out.trans (hbr.out.mono HA.out.size)
      go_wp2_with fail
      go_ret
      exact ⟨rfl, HW.out⟩
end Go.Proofs.Ytnjcfnmdelpecaa.Tp
