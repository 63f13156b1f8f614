import Derived.Test.YtnjcfnmdelpecaaTj
/- Layer 7: the walk of the law TopicParts. -/
set_option linter.unusedVariables false
set_option linter.unusedSimpArgs false
namespace Go.Proofs.Ytnjcfnmdelpecaa.Tp
open Go.RowKit

/-- Five strings in memory. -/
def RowS (W : World) (b : Nat) (P : List (List UInt8)) : Prop := ∀ j (h : j < P.length), W.cell? ⟨b, j, none⟩ = some (.string ⟨(P[j]).toArray⟩)
theorem RowS.new (w : World) (m s k : List UInt8) (t : TypeId) :
    RowS (w.alloc (.cells #[.string ⟨#[117, 97, 103, 118]⟩, .string ⟨#[118, 50]⟩, .string ⟨m.toArray⟩, .string ⟨s.toArray⟩, .string ⟨k.toArray⟩] t)) w.heap.size (partsT m s k) := by
  intro j hj
  have : j = 0 ∨ j = 1 ∨ j = 2 ∨ j = 3 ∨ j = 4 := by rw [partsT_len] at hj; omega
  rcases this with rfl | rfl | rfl | rfl | rfl <;> simp [partsT, uagvL, v2L]
theorem join_step {m s k : List UInt8} {j : Nat} (h1 : 1 ≤ j) (h2 : j < (partsT m s k).length) : joinL ((partsT m s k).take (j + 1)) = joinL ((partsT m s k).take j) ++ 47 :: (partsT m s k)[j] := by
  rw [List.take_add_one, List.getElem?_eq_getElem h2, Option.toList_some, joinL_snoc _ _ (take_ne h1)]
theorem join_len {m s k : List UInt8} (h : okT m s k = true) {j : Nat} (h1 : 1 ≤ j) (h2 : j ≤ 4) : (joinL ((partsT m s k).take j)).length ≤ 90 := by
  have e : joinL ((partsT m s k).take j) = othL ((partsT m s k).take (j - 1)) 0 ++ ((partsT m s k).take (j - 1)).flatMap (· ++ [47]) ++ (partsT m s k)[j - 1]'(by rw [partsT_len]; omega) := by
    rw [show (partsT m s k).take j = (partsT m s k).take (j - 1) ++ [(partsT m s k)[j - 1]'(by rw [partsT_len]; omega)] by
      conv => lhs; rw [show j = j - 1 + 1 by omega]
      rw [List.take_add_one, List.getElem?_eq_getElem (by rw [partsT_len]; omega)]; rfl]
    rw [joinL_flat]
    rfl
  have hs : ∀ p ∈ partsT m s k, p.length ≤ 17 := fun p hp => by have := (partsT_small h p hp).2; omega
  have h3 := flat_len ((partsT m s k).take (j - 1)) (fun p hp => hs p (List.mem_of_mem_take hp))
  have h4 := hs _ (List.getElem_mem (l := partsT m s k) (n := j - 1) (by rw [partsT_len]; omega))
  rw [e, List.length_append, List.length_append]
  rw [List.length_take, partsT_len] at h3
  rw [othL_zero, List.length_nil]
  omega

theorem app_hash (X : List UInt8) : (⟨(X ++ [47, 35]).toArray⟩ : ByteArray) = ⟨X.toArray⟩ ++ ⟨#[47, 35]⟩ := (bs_append X [47, 35]).symm
theorem app_plus (X : List UInt8) : (⟨(X ++ [47, 43]).toArray⟩ : ByteArray) = ⟨X.toArray⟩ ++ ⟨#[47, 43]⟩ := (bs_append X [47, 43]).symm
theorem app_y (X : List UInt8) : (⟨(X ++ [47, 121]).toArray⟩ : ByteArray) = ⟨X.toArray⟩ ++ ⟨#[47, 121]⟩ := (bs_append X [47, 121]).symm
theorem beq_int_yes {a b : Int} (h : a = b) : (a == b) = true := by simp [h]
theorem beq_int_no {a b : Int} (h : a ≠ b) : (a == b) = false := by simp [h]
set_option maxHeartbeats 4000000 in
set_option maxRecDepth 100000 in
theorem lparts_walk (a b : List UInt8) (c d : Int) (w : World) (ha : a.length ≤ reachN) (hb : b.length ≤ reachN) (c0 : -9223372036854775808 ≤ c) (c1 : c ≤ 9223372036854775807)
    (d0 : -9223372036854775808 ≤ d) (d1 : d ≤ 9223372036854775807) :
    Calls Try.prog 9 #[.string ⟨a.toArray⟩, .string ⟨b.toArray⟩, .int .i64 c, .int .i64 d] w (Ret (.bool true) w) := by
  have C0 := Lib.hid (fun u => awake_any u)
  have C1 := Lib.hid (fun u => Topic_any a b c u ha hb c0 c1)
  have hok := fit_ok a b (kindN_lt c)
  have C2 := Lib.hid (fun u => print_some (printS_some.2 ⟨hok, rfl⟩) u (fit_len a) (fit_len b) (kindL_len _))
  unfold topicV at C1
  generalize fitL a = m at *
  generalize fitL b = s at *
  generalize kindL (kindN c) = kk at *
  have PK := Lib.hid (fun u => pick_any d 4 u d0 d1 (by omega) (by omega))
  have pk0 := pickS_nonneg (c := d) (n := 4) (by omega)
  have pk1 := pickS_lt (c := d) (n := 4) (by omega)
  generalize pickS d 4 = z at *
  obtain ⟨z, rfl⟩ := Int.eq_ofNat_of_zero_le pk0
  have hz3 : z ≤ 3 := by omega
  generalize (⟨a.toArray⟩ : ByteArray) = A at *
  generalize (⟨b.toArray⟩ : ByteArray) = B at *
  clear ha hb
  go_enter Try.func9, Try.ntmps9
  go_wp2_with (go_at_call 10; (with_reducible refine (C0.out _).mono ?_); rintro e w1 ⟨rfl, hb1⟩; have Y1 := Lib.hid hb1; clear hb1)
  go_wp2_with (go_at_call 11; (with_reducible refine (C1.out _).mono ?_); rintro e w2 ⟨rfl, hb2⟩; have Y2 := Lib.hid (below2 Y1.out hb2); clear hb2)
  go_wp2_with (go_at_call 14; (with_reducible refine (C2.out _).mono ?_); rintro e w3 ⟨rfl, hb3⟩; obtain ⟨⟨g0, _⟩, ⟨g1, _⟩, ⟨g2, _⟩, hlt⟩ := (TAt.new w2 _ _ _ _).below hb3; have Y3 := Lib.hid (below_a Y2.out hb3); clear hb3)
  go_wp2_with (go_at_call 13; (with_reducible refine (PK.out _).mono ?_); rintro e w4 ⟨rfl, rfl⟩)
  obtain ⟨W4, hW4⟩ : ∃ W4, w3.alloc (.cells #[.string ⟨#[117, 97, 103, 118]⟩, .string ⟨#[118, 50]⟩, .string ⟨m.toArray⟩, .string ⟨s.toArray⟩, .string ⟨kk.toArray⟩] 9) = W4 := ⟨_, rfl⟩
  rw [hW4]
  have HR : Hid (RowS W4 w3.heap.size (partsT m s kk)) := by rw [← hW4]; exact RowS.new w3 m s kk _
  have Y4 : Hid (Below w.heap.size w W4) := by rw [← hW4]; exact Y3.out.alloc Y3.out.size _
  clear hW4 g0 g1 g2 hlt C0 C1 C2 PK Y1 Y2 Y3
  generalize w3.heap.size = b0 at *
  have hl0 : Value.string ⟨#[117, 97, 103, 118]⟩ = .string ⟨(joinL ((partsT m s kk).take 1)).toArray⟩ := rfl
  rw [hl0]
  clear hl0
  have HOK := Lib.hid hok
  clear hok
  go_loop [15, 16] (fun less i => ∃ j : Nat, 1 ≤ j ∧ j ≤ z + 1 ∧ i = .int .i64 j ∧ less = .string ⟨(joinL ((partsT m s kk).take j)).toArray⟩) (fun _ i => 10 - (intOf i).toNat)
  case atStart => exact ⟨1, by omega, by omega, rfl, rfl⟩
  case round =>
    obtain ⟨j, hj1, hj2, rfl, rfl⟩ := hrel
    by_cases hlt : j < z + 1
    · have hjp : j < (partsT m s kk).length := by rw [partsT_len]; omega
      have hc := HR.out j hjp
      have hU := join_len HOK.out hj1 (by omega)
      have hV := (partsT_small HOK.out _ (List.getElem_mem hjp)).2
      have HS : Hid ((⟨(joinL ((partsT m s kk).take j)).toArray⟩ : ByteArray) ++ ⟨#[47]⟩ ++ ⟨((partsT m s kk)[j]).toArray⟩ = ⟨(joinL ((partsT m s kk).take (j + 1))).toArray⟩) := by
        show _ = _
        rw [join_step hj1 hjp, show (⟨#[47]⟩ : ByteArray) = ⟨([47] : List UInt8).toArray⟩ from rfl, bs_append, bs_append]
        simp
      rw [← bs_size] at hU hV
      have h47 : (⟨#[47]⟩ : ByteArray).size = 1 := rfl
      have hcmp : (j : Int) < 1 + (z : Int) := by omega
      generalize (⟨(joinL ((partsT m s kk).take j)).toArray⟩ : ByteArray) = U at *
      generalize (⟨((partsT m s kk)[j]).toArray⟩ : ByteArray) = V at *
      go_wp2_with fail
      go_round
      case rel => exact ⟨j + 1, by omega, by omega, by go_num, by rw [HS.out]⟩
      case measure => simp [intOf]; omega
    · obtain rfl : j = z + 1 := by omega
      clear hlt hj1 hj2
      have hcmp : ¬ (((z + 1 : Nat) : Int) < 1 + (z : Int)) := by omega
      have hzl : z + 1 < (partsT m s kk).length := by rw [partsT_len]; omega
      have hxl : (printL m s kk).length ≤ 60 := print_reach (printS_some.2 ⟨HOK.out, rfl⟩)
      have hll := join_len HOK.out (j := z + 1) (by omega) (by omega)
      have CM1 := Lib.hid (fun u => match_is (less_no HOK.out (j := z + 1) (by omega) (by omega)) u (reach_small (by omega)) (reach_small (by omega)))
      have CM2 := Lib.hid (fun u => match_is (less_hash HOK.out (j := z + 1) (by omega)) u (reach_small (by rw [List.length_append]; show _ + 2 ≤ 100; omega)) (reach_small (by omega)))
      have CM3 := Lib.hid (fun u => match_is (more_no (q := [43]) HOK.out (by decide) (by decide)) u (reach_small (by rw [List.length_append]; show _ + 2 ≤ 100; omega)) (reach_small (by omega)))
      have CM5 := Lib.hid (fun u => match_is (less_back HOK.out (j := z + 1) (by omega) (by omega)) u (reach_small (by omega)) (reach_small (by omega)))
      rw [app_hash] at CM2
      rw [app_plus] at CM3
      have hon := other_no HOK.out (j := z + 1) hzl
      obtain ⟨Q, hQ0⟩ : ∃ Q, (partsT m s kk).set (z + 1) ((partsT m s kk)[z + 1] ++ [43]) = Q := ⟨_, rfl⟩
      have HQ := Lib.hid hQ0
      clear hQ0
      rw [HQ.out] at hon
      have HQ5 : Hid (Q.length = 5) := by show _ = _; rw [← HQ.out, List.length_set, partsT_len]
      have HQ17 : Hid (∀ p ∈ Q, p.length ≤ 17) := by
        intro p hp
        rw [← HQ.out] at hp
        rcases List.mem_or_eq_of_mem_set hp with hp | rfl
        · have := (partsT_small HOK.out p hp).2; omega
        · have := (partsT_small HOK.out _ (List.getElem_mem hzl)).2
          rw [List.length_append]
          show _ + 1 ≤ 17
          omega
      have hol : (joinL Q).length ≤ 100 := by
        have e := othL_last HQ5.out
        rw [othL_five] at e
        have h1 := othL_len HQ5.out HQ17.out (i := 4) (by omega)
        have h2 := HQ17.out _ (List.getElem_mem (l := Q) (n := 4) (by rw [HQ5.out]; omega))
        have h3 := flat_len (Q.take 4) (fun p hp => HQ17.out p (List.mem_of_mem_take hp))
        rw [e, List.length_append]
        unfold othL at h1 ⊢
        rw [if_pos (by omega)] at h1 ⊢
        rw [List.length_take, HQ5.out] at h3
        omega
      have CM4 := Lib.hid (fun u => match_is hon u (reach_small hol) (reach_small (by omega)))
      have h2a : (⟨#[47, 35]⟩ : ByteArray).size = 2 := rfl
      have h2b : (⟨#[47, 43]⟩ : ByteArray).size = 2 := rfl
      rw [← othL_five Q] at CM4
      rw [← bs_size] at hxl hll
      clear hon hol
      generalize (⟨(joinL ((partsT m s kk).take (z + 1))).toArray⟩ : ByteArray) = LS at *
      generalize (⟨(printL m s kk).toArray⟩ : ByteArray) = X at *
      go_wp2_with fail
      go_loop [17, 18] (fun oth i => ∃ j : Nat, j ≤ 5 ∧ i = .int .i64 j ∧ oth = .string ⟨(othL Q j).toArray⟩) (fun _ i => 10 - (intOf i).toNat)
      case atStart => exact ⟨0, by omega, rfl, rfl⟩
      case round =>
        obtain ⟨j, hj5, rfl, rfl⟩ := hrel
        by_cases hlt : j < 5
        · have hjp : j < (partsT m s kk).length := by rw [partsT_len]; omega
          have hc := HR.out j hjp
          have hV := (partsT_small HOK.out _ (List.getElem_mem hjp)).2
          have hU := othL_len HQ5.out HQ17.out hlt
          rw [← bs_size] at hU hV
          have h47 : (⟨#[47]⟩ : ByteArray).size = 1 := rfl
          have h43 : (⟨#[43]⟩ : ByteArray).size = 1 := rfl
          by_cases hjz : j = z + 1
          · have hb1 : ((j : Int) == 1 + (z : Int)) = true := beq_int_yes (by omega)
            have hq : Q[j]'(by rw [HQ5.out]; omega) = (partsT m s kk)[j] ++ [43] := by
              subst hjz
              have : Q[z + 1]? = some ((partsT m s kk)[z + 1] ++ [43]) := by rw [← HQ.out, List.getElem?_set_self hzl]
              rw [List.getElem?_eq_getElem (by rw [HQ5.out]; omega)] at this
              exact Option.some.inj this
            by_cases hj4 : j < 4
            · have HS : Hid ((⟨(othL Q j).toArray⟩ : ByteArray) ++ (⟨((partsT m s kk)[j]).toArray⟩ ++ ⟨#[43]⟩) ++ ⟨#[47]⟩ = ⟨(othL Q (j + 1)).toArray⟩) := by
                show _ = _
                rw [othL_step HQ5.out hj4, hq, show (⟨#[43]⟩ : ByteArray) = ⟨([43] : List UInt8).toArray⟩ from rfl, show (⟨#[47]⟩ : ByteArray) = ⟨([47] : List UInt8).toArray⟩ from rfl, bs_append, bs_append, bs_append]
              clear hq hjz
              generalize (⟨(othL Q j).toArray⟩ : ByteArray) = U at *
              generalize (⟨((partsT m s kk)[j]).toArray⟩ : ByteArray) = V at *
              go_wp2_with fail
              go_round
              case rel => exact ⟨j + 1, by omega, by go_num, by rw [HS.out]⟩
              case measure => simp [intOf]; omega
            · obtain rfl : j = 4 := by omega
              have HS : Hid ((⟨(othL Q 4).toArray⟩ : ByteArray) ++ (⟨((partsT m s kk)[4]).toArray⟩ ++ ⟨#[43]⟩) = ⟨(othL Q (4 + 1)).toArray⟩) := by
                show _ = _
                rw [show 4 + 1 = 5 from rfl, othL_last HQ5.out, hq, show (⟨#[43]⟩ : ByteArray) = ⟨([43] : List UInt8).toArray⟩ from rfl, bs_append, bs_append]
              clear hq hjz
              generalize (⟨(othL Q 4).toArray⟩ : ByteArray) = U at *
              generalize (⟨((partsT m s kk)[4]).toArray⟩ : ByteArray) = V at *
              go_wp2_with fail
              go_round
              case rel => exact ⟨4 + 1, by omega, by go_num, by rw [HS.out]⟩
              case measure => simp [intOf]
          · have hb1 : ((j : Int) == 1 + (z : Int)) = false := beq_int_no (by omega)
            have hq : Q[j]'(by rw [HQ5.out]; omega) = (partsT m s kk)[j] := by
              have : Q[j]? = some ((partsT m s kk)[j]) := by rw [← HQ.out, List.getElem?_set_ne (by omega), List.getElem?_eq_getElem hjp]
              rw [List.getElem?_eq_getElem (by rw [HQ5.out]; omega)] at this
              exact Option.some.inj this
            by_cases hj4 : j < 4
            · have HS : Hid ((⟨(othL Q j).toArray⟩ : ByteArray) ++ ⟨((partsT m s kk)[j]).toArray⟩ ++ ⟨#[47]⟩ = ⟨(othL Q (j + 1)).toArray⟩) := by
                show _ = _
                rw [othL_step HQ5.out hj4, hq, show (⟨#[47]⟩ : ByteArray) = ⟨([47] : List UInt8).toArray⟩ from rfl, bs_append, bs_append]
              clear hq hjz
              generalize (⟨(othL Q j).toArray⟩ : ByteArray) = U at *
              generalize (⟨((partsT m s kk)[j]).toArray⟩ : ByteArray) = V at *
              go_wp2_with fail
              go_round
              case rel => exact ⟨j + 1, by omega, by go_num, by rw [HS.out]⟩
              case measure => simp [intOf]; omega
            · obtain rfl : j = 4 := by omega
              have HS : Hid ((⟨(othL Q 4).toArray⟩ : ByteArray) ++ ⟨((partsT m s kk)[4]).toArray⟩ = ⟨(othL Q (4 + 1)).toArray⟩) := by
                show _ = _
                rw [show 4 + 1 = 5 from rfl, othL_last HQ5.out, hq, bs_append]
              clear hq hjz
              generalize (⟨(othL Q 4).toArray⟩ : ByteArray) = U at *
              generalize (⟨((partsT m s kk)[4]).toArray⟩ : ByteArray) = V at *
              go_wp2_with fail
              go_round
              case rel => exact ⟨4 + 1, by omega, by go_num, by rw [HS.out]⟩
              case measure => simp [intOf]
        · obtain rfl : j = 5 := by omega
          generalize (⟨(othL Q 5).toArray⟩ : ByteArray) = O5 at *
          clear hlt hj5 HQ HQ5 HQ17 HR hzl
          go_wp2_with (first | (go_at_call 19; (with_reducible refine (CM1.out _).mono ?_); rintro e w5 ⟨rfl, hb5⟩; have Y5 := Lib.hid (below2 Y4.out hb5); clear hb5) | (go_at_call 19; (with_reducible refine (CM2.out _).mono ?_); rintro e w6 ⟨rfl, hb6⟩; have Y6 := Lib.hid (below2 Y5.out hb6); clear hb6) | (go_at_call 19; (with_reducible refine (CM3.out _).mono ?_); rintro e w7 ⟨rfl, hb7⟩; have Y7 := Lib.hid (below2 Y6.out hb7); clear hb7) | (go_at_call 19; (with_reducible refine (CM4.out _).mono ?_); rintro e w8 ⟨rfl, hb8⟩; have Y8 := Lib.hid (below2 Y7.out hb8); clear hb8) | (go_at_call 19; (with_reducible refine (CM5.out _).mono ?_); rintro e w9 ⟨rfl, hb9⟩; have Y9 := Lib.hid (below2 Y8.out hb9); clear hb9))
          go_ret
          exact ⟨rfl, Y9.out⟩
end Go.Proofs.Ytnjcfnmdelpecaa.Tp
