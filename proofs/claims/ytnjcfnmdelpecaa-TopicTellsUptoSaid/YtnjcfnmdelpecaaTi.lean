import Derived.Test.YtnjcfnmdelpecaaTh
/- Layer 7: the walks of the laws TopicApart and TopicNames. -/
set_option linter.unusedVariables false
set_option linter.unusedSimpArgs false
namespace Go.Proofs.Ytnjcfnmdelpecaa.Tp
open Go.RowKit

def arr2V (a b : List UInt8) : Value := .agg #[.string ⟨a.toArray⟩, .string ⟨b.toArray⟩]
/-- Two names in memory. -/
def AAt (W : World) (b : Nat) (m s : ByteArray) : Prop := HoldsA W b 0 (.string m) ∧ HoldsA W b 1 (.string s) ∧ b < W.heap.size
theorem AAt.new (w : World) (m s : ByteArray) (t : TypeId) : AAt (w.alloc (.cells #[.string m, .string s] t)) w.heap.size m s :=
  ⟨HoldsA.new _ _ _ _ _ rfl, HoldsA.new _ _ _ _ _ rfl, by simp⟩
theorem AAt.new2 (w : World) (o : Obj) (m s : ByteArray) (t : TypeId) : AAt ((w.alloc o).alloc (.cells #[.string m, .string s] t)) (w.heap.size + 1) m s := by
  have := AAt.new (w.alloc o) m s t
  rwa [World.size_alloc] at this
theorem AAt.below {W W' : World} {b : Nat} {m s : ByteArray} (h : AAt W b m s) (hb : Below W.heap.size W W') : AAt W' b m s :=
  ⟨h.1.below hb h.2.2, h.2.1.below hb h.2.2, Nat.lt_of_lt_of_le h.2.2 hb.size⟩
theorem AAt.alloc {W : World} {b : Nat} {m s : ByteArray} (h : AAt W b m s) (o : Obj) : AAt (W.alloc o) b m s :=
  ⟨h.1.alloc o, h.2.1.alloc o, by have := h.2.2; simp; omega⟩
theorem tl_dec (a b : List UInt8) : ((⟨a.toArray⟩ : ByteArray).toList == (⟨b.toArray⟩ : ByteArray).toList) = decide (a = b) := by
  rw [tl_eq, tl_eq, Bool.eq_iff_iff]
  simp
theorem print_eq {m s k m' s' k' : List UInt8} (h : okT m s k = true) (h' : okT m' s' k' = true) : decide (printL m s k = printL m' s' k') = (decide (m = m') && (decide (s = s') && decide (k = k'))) := by
  rw [Bool.eq_iff_iff]
  simp only [decide_eq_true_eq, Bool.and_eq_true]
  constructor
  · exact print_inj h h'
  · rintro ⟨rfl, rfl, rfl⟩
    rfl

set_option maxHeartbeats 2000000 in
set_option maxRecDepth 100000 in
theorem lapart_walk (a0 a1 b0 b1 : List UInt8) (c d : Int) (w : World) (h1 : a0.length ≤ reachN) (h2 : a1.length ≤ reachN) (h3 : b0.length ≤ reachN) (h4 : b1.length ≤ reachN)
    (c0 : -9223372036854775808 ≤ c) (c1 : c ≤ 9223372036854775807) (d0 : -9223372036854775808 ≤ d) (d1 : d ≤ 9223372036854775807) :
    Calls Try.prog 8 #[arr2V a0 a1, arr2V b0 b1, .int .i64 c, .int .i64 d] w (Ret (.bool true) w) := by
  have C0 := Lib.hid (fun u => awake_any u)
  have C1 := Lib.hid (fun u => Topic_any a0 a1 c u h1 h2 c0 c1)
  have C2 := Lib.hid (fun u => Topic_any b0 b1 d u h3 h4 d0 d1)
  have hok := fit_ok a0 a1 (kindN_lt c)
  have hok2 := fit_ok b0 b1 (kindN_lt d)
  have C3 := Lib.hid (fun u => print_some (printS_some.2 ⟨hok, rfl⟩) u (fit_len a0) (fit_len a1) (kindL_len _))
  have C4 := Lib.hid (fun u => print_some (printS_some.2 ⟨hok2, rfl⟩) u (fit_len b0) (fit_len b1) (kindL_len _))
  have e0 := tl_dec (printL (fitL a0) (fitL a1) (kindL (kindN c))) (printL (fitL b0) (fitL b1) (kindL (kindN d)))
  rw [print_eq hok hok2] at e0
  have e1 := tl_dec (fitL a0) (fitL b0)
  have e2 := tl_dec (fitL a1) (fitL b1)
  have e3 := tl_dec (kindL (kindN c)) (kindL (kindN d))
  unfold topicV arr2V at *
  clear hok hok2
  generalize decide (fitL a0 = fitL b0) = q1 at *
  generalize decide (fitL a1 = fitL b1) = q2 at *
  generalize decide (kindL (kindN c) = kindL (kindN d)) = q3 at *
  generalize (⟨(printL (fitL a0) (fitL a1) (kindL (kindN c))).toArray⟩ : ByteArray) = Z1 at *
  generalize (⟨(printL (fitL b0) (fitL b1) (kindL (kindN d))).toArray⟩ : ByteArray) = Z2 at *
  generalize (⟨(kindL (kindN c)).toArray⟩ : ByteArray) = K1 at *
  generalize (⟨(kindL (kindN d)).toArray⟩ : ByteArray) = K2 at *
  generalize (⟨(fitL a0).toArray⟩ : ByteArray) = M1 at *
  generalize (⟨(fitL a1).toArray⟩ : ByteArray) = S1 at *
  generalize (⟨(fitL b0).toArray⟩ : ByteArray) = M2 at *
  generalize (⟨(fitL b1).toArray⟩ : ByteArray) = S2 at *
  generalize (⟨a0.toArray⟩ : ByteArray) = A0 at *
  generalize (⟨a1.toArray⟩ : ByteArray) = A1 at *
  generalize (⟨b0.toArray⟩ : ByteArray) = B0 at *
  generalize (⟨b1.toArray⟩ : ByteArray) = B1 at *
  clear h1 h2 h3 h4
  go_enter Try.func8, Try.ntmps8
  go_wp2_with (go_at_call 10; (with_reducible refine (C0.out _).mono ?_); rintro e w1 ⟨rfl, hb1⟩; obtain ⟨⟨p0, _⟩, ⟨p1, _⟩, hl1⟩ := ((AAt.new w _ _ _).alloc _).below hb1; have X1 := Lib.hid ((AAt.new2 w _ B0 B1 38).below hb1); have Y1 := Lib.hid (below_a ((Below.refl _ w).alloc (Nat.le_refl _) _) hb1); clear hb1)
  go_wp2_with (go_at_call 11; (with_reducible refine (C1.out _).mono ?_); rintro e w2 ⟨rfl, hb2⟩; obtain ⟨⟨p2, _⟩, ⟨p3, _⟩, hl2⟩ := X1.out.below hb2; have Y2 := Lib.hid (below2 Y1.out hb2); clear hb2)
  go_wp2_with (go_at_call 11; (with_reducible refine (C2.out _).mono ?_); rintro e w3 ⟨rfl, hb3⟩; have D3 := Lib.hid ((TAt.new w2 _ _ _ _).below hb3); obtain ⟨⟨g0, _⟩, ⟨g1, _⟩, ⟨g2, _⟩, hlt⟩ := (TAt.new w2 _ _ _ _).below hb3; have Y3 := Lib.hid (below_a Y2.out hb3); clear hb3)
  go_wp2_with (go_at_call 14; (with_reducible refine (C3.out _).mono ?_); rintro e w4 ⟨rfl, hb4⟩; have D4 := Lib.hid ((D3.out.alloc _).below hb4); have E4 := Lib.hid ((TAt.new w3 _ _ _ _).below hb4); have Y4 := Lib.hid (below_a Y3.out hb4); obtain ⟨⟨g3, _⟩, ⟨g4, _⟩, ⟨g5, _⟩, hlt2⟩ := (TAt.new w3 _ _ _ _).below hb4; clear hb4)
  go_wp2_with (go_at_call 14; (with_reducible refine (C4.out _).mono ?_); rintro e w5 ⟨rfl, hb5⟩; obtain ⟨⟨g6, _⟩, ⟨g7, _⟩, ⟨g8, _⟩, hlt3⟩ := D4.out.below hb5; obtain ⟨⟨g9, _⟩, ⟨ga, _⟩, ⟨gb, _⟩, hlt4⟩ := E4.out.below hb5; have Y5 := Lib.hid (below2 Y4.out hb5); clear hb5)
  all_goals go_ret
  all_goals exact ⟨rfl, Y5.out⟩

theorem classes (n : Nat) (h : n ≤ 255) : ((95 : Int) ≤ (n : Int) ∧ (n : Int) ≤ 95) ∨ ((46 : Int) ≤ (n : Int) ∧ (n : Int) ≤ 46) ∨ ((58 : Int) ≤ (n : Int) ∧ (n : Int) ≤ 58) ∨ ((45 : Int) ≤ (n : Int) ∧ (n : Int) ≤ 45) ∨ ((47 : Int) ≤ (n : Int) ∧ (n : Int) ≤ 47) ∨ ((96 : Int) ≤ (n : Int) ∧ (n : Int) ≤ 96) ∨ ((97 : Int) ≤ (n : Int) ∧ (n : Int) ≤ 122) ∨ ((65 : Int) ≤ (n : Int) ∧ (n : Int) ≤ 90) ∨ ((48 : Int) ≤ (n : Int) ∧ (n : Int) ≤ 57) ∨ ((0 : Int) ≤ (n : Int) ∧ (n : Int) ≤ 44) ∨ ((59 : Int) ≤ (n : Int) ∧ (n : Int) ≤ 64) ∨ ((91 : Int) ≤ (n : Int) ∧ (n : Int) ≤ 94) ∨ ((123 : Int) ≤ (n : Int) ∧ (n : Int) ≤ 255) := by omega
theorem ofB_yes {c : UInt8} (h : c.toNat = 95 ∨ c.toNat = 46 ∨ c.toNat = 58 ∨ c.toNat = 45 ∨ (97 ≤ c.toNat ∧ c.toNat ≤ 122) ∨ (65 ≤ c.toNat ∧ c.toNat ≤ 90) ∨ (48 ≤ c.toNat ∧ c.toNat ≤ 57)) : ofB c = true := by
  unfold ofB; exact decide_eq_true h
theorem ofB_no {c : UInt8} (h : ¬ (c.toNat = 95 ∨ c.toNat = 46 ∨ c.toNat = 58 ∨ c.toNat = 45 ∨ (97 ≤ c.toNat ∧ c.toNat ≤ 122) ∨ (65 ≤ c.toNat ∧ c.toNat ≤ 90) ∨ (48 ≤ c.toNat ∧ c.toNat ≤ 57))) : ofB c = false := by
  unfold ofB; exact decide_eq_false h

set_option maxHeartbeats 4000000 in
set_option maxRecDepth 100000 in
theorem lnames_walk (s : List UInt8) (at0 : Int) (c : UInt8) (w : World) (hs : s.length ≤ reachN) (a0 : -9223372036854775808 ≤ at0) (a1 : at0 ≤ 9223372036854775807) :
    Calls Try.prog 7 #[.string ⟨s.toArray⟩, .int .i64 at0, .int .u8 c.toNat] w (Ret (.bool true) w) := by
  have C0 := Lib.hid (fun u => awake_any u)
  have C1 := Lib.hid (fun u => Fit_any s u hs)
  have hln := name_len (fit_name s)
  obtain ⟨n, hn⟩ : ∃ n, (fitL s).length = n := ⟨_, rfl⟩
  rw [hn] at hln
  have PK := Lib.hid (fun u => pick_any at0 (n : Int) u a0 a1 (by omega) (by omega))
  have pk0 := pickS_nonneg (c := at0) (n := (n : Int)) (by omega)
  have pk1 := pickS_lt (c := at0) (n := (n : Int)) (by omega)
  generalize pickS at0 (n : Int) = k at *
  obtain ⟨k, rfl⟩ := Int.eq_ofNat_of_zero_le pk0
  have hk : k < (fitL s).length := by omega
  have C2 := Lib.hid (fun u => name_is (fit_name s) u (fit_len s))
  have C3 := Lib.hid (fun u => name_is (name_set (fitL s) (fit_name s) k hk c) u (by rw [List.length_set]; exact fit_len s))
  have C4 := Lib.hid (fun u => name_is (l := []) (b := false) rfl u (reach_small (by decide)))
  have C5 := Lib.hid (fun u => name_is (name_long (fitL s) (by omega)) u (reach_small (by rw [List.length_append]; show _ + 16 ≤ 100; omega)))
  have HA : Hid ((⟨(fitL s).toArray⟩ : ByteArray) ++ ⟨#[97, 97, 97, 97, 97, 97, 97, 97, 97, 97, 97, 97, 97, 97, 97, 97]⟩ = ⟨(fitL s ++ [97, 97, 97, 97, 97, 97, 97, 97, 97, 97, 97, 97, 97, 97, 97, 97]).toArray⟩) := bs_append _ _
  have hz : (⟨(fitL s).toArray⟩ : ByteArray).size = n := by rw [bs_size, hn]
  have hz16 : (⟨#[97, 97, 97, 97, 97, 97, 97, 97, 97, 97, 97, 97, 97, 97, 97, 97]⟩ : ByteArray).size = 16 := rfl
  have RL := Lib.hid (fun u => row_laid u (fitL s))
  rw [hn] at RL
  have HK : Hid (k < (fitL s).length) := hk
  have HL : Hid (((fitL s).set k c).length = n) := by show _ = _; rw [List.length_set, hn]
  rw [← HA.out] at C5
  clear hk hn hs HA
  generalize fitL s = L at *
  generalize (⟨s.toArray⟩ : ByteArray) = S at *
  generalize (⟨L.toArray⟩ : ByteArray) = N at *
  go_enter Try.func7, Try.ntmps7
  go_wp2_with (first | (go_at_call 10; (with_reducible refine (C0.out _).mono ?_); rintro e w1 ⟨rfl, hb1⟩; have Y1 := Lib.hid hb1; clear hb1) | (go_at_call 21; (with_reducible refine (C1.out _).mono ?_); rintro e w2 ⟨rfl, hb2⟩; have Y2 := Lib.hid (below2 Y1.out hb2); clear hb2))
  obtain ⟨cap, W, hcv, hrow, hbw⟩ := RL.out w2
  have Y3 := Lib.hid (below2 Y2.out hbw)
  have HZ : Hid (w.heap.size ≤ w2.heap.size) := Y2.out.size
  obtain ⟨x, hcell⟩ : ∃ x, W.cell? ⟨w2.heap.size, k, none⟩ = some x := ⟨_, hrow.cell k HK.out⟩
  have hfro := hrow.fro k HK.out
  have hback := (hrow.set (y := c) HK.out).back (cap := cap)
  rw [HL.out] at hback
  rw [hcv]
  clear hcv RL hrow hbw Y1 Y2 HK HL
  generalize w2.heap.size = b at *
  rcases classes c.toNat (by have := c.toNat_lt; omega) with h | h | h | h | h | h | h | h | h | h | h | h | h
  all_goals
    first
      | (have hq := ofB_yes (c := c) (by omega); rw [hq] at C3; clear hq)
      | (have hq := ofB_no (c := c) (by omega); rw [hq] at C3; clear hq)
    generalize c.toNat = m at *
    first | have e1 : ((m : Int) == 95) = true := by simp; omega | have e1 : ((m : Int) == 95) = false := by simp; omega
    first | have e2 : ((m : Int) == 46) = true := by simp; omega | have e2 : ((m : Int) == 46) = false := by simp; omega
    first | have e3 : ((m : Int) == 58) = true := by simp; omega | have e3 : ((m : Int) == 58) = false := by simp; omega
    first | have e4 : ((m : Int) == 45) = true := by simp; omega | have e4 : ((m : Int) == 45) = false := by simp; omega
    go_wp2_with (first | (go_at_call 13; (with_reducible refine (PK.out _).mono ?_); rintro e w3 ⟨rfl, rfl⟩) | (go_at_call 15; (with_reducible refine (C2.out _).mono ?_); rintro e w3 ⟨rfl, rfl⟩) | (go_at_call 15; (with_reducible refine (C3.out _).mono ?_); rintro e w3 ⟨rfl, rfl⟩) | (go_at_call 15; (with_reducible refine (C4.out _).mono ?_); rintro e w3 ⟨rfl, rfl⟩) | (go_at_call 15; (with_reducible refine (C5.out _).mono ?_); rintro e w3 ⟨rfl, rfl⟩))
    go_ret
    exact ⟨ret_bool (by first | rfl | (simp; done) | (simp; omega)), Y3.out.setCell (p := ⟨b, k, none⟩) HZ.out _⟩
end Go.Proofs.Ytnjcfnmdelpecaa.Tp
