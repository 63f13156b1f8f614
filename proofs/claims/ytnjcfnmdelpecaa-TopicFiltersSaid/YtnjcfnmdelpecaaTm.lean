import Derived.Test.YtnjcfnmdelpecaaTi
import Derived.Test.YtnjcfnmdelpecaaTk
/- Layer 7: the walk of the law TopicFilters. -/
set_option linter.unusedVariables false
set_option linter.unusedSimpArgs false
namespace Go.Proofs.Ytnjcfnmdelpecaa.Tp
open Go.RowKit

theorem self_yes {m s k : List UInt8} (h : okT m s k = true) : matchS (printL m s k) (printL m s k) = true := matchP_self _
theorem hash_any (x : List UInt8) : matchS [35] x = true := by
  unfold matchS
  rw [show partsL [35] = [[35]] from rfl, mP1, if_pos ⟨rfl, rfl⟩]
theorem all_hash {m s k : List UInt8} (h : okT m s k = true) : matchS (printL m s k ++ [47, 35]) (printL m s k) = true := by
  rw [show printL m s k ++ [47, 35] = joinL (partsT m s k ++ [[35]]) by rw [joinL_snoc _ _ (by simp [partsT]), ← print_join]]
  rw [match_joined h (by simp) (fun p hp => by
    rcases List.mem_append.1 hp with hp | hp
    · exact partsT_no h p hp
    · simp at hp; subst hp; decide)]
  have := matchP_hash (partsT m s k) []
  rwa [List.append_nil] at this
theorem two_same {m s k m' s' k' : List UInt8} (h : okT m s k = true) (h' : okT m' s' k' = true) : matchS (printL m s k) (printL m' s' k') = decide (printL m s k = printL m' s' k') := by
  unfold matchS
  rw [print_parts h, print_parts h', matchP_plain _ _ (print_plain h), Bool.eq_iff_iff, decide_eq_true_eq, decide_eq_true_eq]
  constructor
  · intro e
    simp only [List.cons.injEq, true_and, and_true] at e
    rw [e.1, e.2.1, e.2.2]
  · intro e
    rw [← print_parts h, ← print_parts h', e]
theorem plus_yes {m s k : List UInt8} (h : okT m s k = true) {j : Nat} (hj : j < 5) : matchS (joinL ((partsT m s k).set j [43])) (printL m s k) = true := by
  have hj' : j < (partsT m s k).length := hj
  rw [match_joined h (by intro e; have := congrArg List.length e; simp [partsT] at this) (fun p hp => by
    rcases List.mem_or_eq_of_mem_set hp with hp | rfl
    · exact partsT_no h p hp
    · decide)]
  have e : partsT m s k = (partsT m s k).take j ++ (partsT m s k)[j] :: (partsT m s k).drop (j + 1) := by
    rw [← List.drop_eq_getElem_cons hj', List.take_append_drop]
  have := matchP_plus ((partsT m s k).take j) ((partsT m s k).drop (j + 1)) ((partsT m s k)[j])
  rw [← e] at this
  rw [List.set_eq_take_append_cons_drop, if_pos hj']
  exact this
/-- A filter's text with a hash in its last parts' place. -/
def hashL (m s k : List UInt8) (j : Nat) : List UInt8 := othL (partsT m s k) j ++ [35]
theorem hash_yes {m s k : List UInt8} (h : okT m s k = true) {j : Nat} (hj : j < 5) : matchS (hashL m s k j) (printL m s k) = true := by
  have e : hashL m s k j = joinL ((partsT m s k).take j ++ [[35]]) := by
    rw [joinL_flat]
    unfold hashL othL
    rw [if_pos hj]
  rw [e, match_joined h (by simp) (fun p hp => by
    rcases List.mem_append.1 hp with hp | hp
    · exact partsT_no h p (List.mem_of_mem_take hp)
    · simp at hp; subst hp; decide)]
  have := matchP_hash ((partsT m s k).take j) ((partsT m s k).drop j)
  rwa [List.take_append_drop] at this
/-- Ahead of the place that is set, nothing is another one. -/
theorem oth_set (P : List (List UInt8)) (q : List UInt8) {j : Nat} (hj : j < 5) : othL (P.set j q) j = othL P j := by
  unfold othL
  rw [if_pos hj, if_pos hj]
  congr 1
  exact List.take_set_of_le (Nat.le_refl _)

set_option maxHeartbeats 8000000 in
set_option maxRecDepth 100000 in
theorem lfilters_walk (a0 a1 b0 b1 : List UInt8) (c d pz : Int) (w : World) (h1 : a0.length ≤ reachN) (h2 : a1.length ≤ reachN) (h3 : b0.length ≤ reachN) (h4 : b1.length ≤ reachN)
    (c0 : -9223372036854775808 ≤ c) (c1 : c ≤ 9223372036854775807) (d0 : -9223372036854775808 ≤ d) (d1 : d ≤ 9223372036854775807) (z0 : -9223372036854775808 ≤ pz) (z1 : pz ≤ 9223372036854775807) :
    Calls Try.prog 6 #[arr2V a0 a1, arr2V b0 b1, .int .i64 c, .int .i64 d, .int .i64 pz] w (Ret (.bool true) w) := by
  have C0 := Lib.hid (fun u => awake_any u)
  have C1 := Lib.hid (fun u => Topic_any a0 a1 c u h1 h2 c0 c1)
  have C2 := Lib.hid (fun u => Topic_any b0 b1 d u h3 h4 d0 d1)
  have hok := fit_ok a0 a1 (kindN_lt c)
  have hok2 := fit_ok b0 b1 (kindN_lt d)
  have C3 := Lib.hid (fun u => print_some (printS_some.2 ⟨hok, rfl⟩) u (fit_len a0) (fit_len a1) (kindL_len _))
  have C4 := Lib.hid (fun u => print_some (printS_some.2 ⟨hok2, rfl⟩) u (fit_len b0) (fit_len b1) (kindL_len _))
  unfold topicV arr2V at *
  generalize fitL a0 = m at *
  generalize fitL a1 = s at *
  generalize kindL (kindN c) = kk at *
  generalize fitL b0 = m2 at *
  generalize fitL b1 = s2 at *
  generalize kindL (kindN d) = kk2 at *
  have PK := Lib.hid (fun u => pick_any pz 5 u z0 z1 (by omega) (by omega))
  have pk0 := pickS_nonneg (c := pz) (n := 5) (by omega)
  have pk1 := pickS_lt (c := pz) (n := 5) (by omega)
  generalize pickS pz 5 = z at *
  obtain ⟨z, rfl⟩ := Int.eq_ofNat_of_zero_le pk0
  have hz4 : z < 5 := by omega
  generalize (⟨a0.toArray⟩ : ByteArray) = A0 at *
  generalize (⟨a1.toArray⟩ : ByteArray) = A1 at *
  generalize (⟨b0.toArray⟩ : ByteArray) = B0 at *
  generalize (⟨b1.toArray⟩ : ByteArray) = B1 at *
  clear h1 h2 h3 h4
  go_enter Try.func6, Try.ntmps6
  go_wp2_with (go_at_call 10; (with_reducible refine (C0.out _).mono ?_); rintro e w1 ⟨rfl, hb1⟩; obtain ⟨⟨p0, _⟩, ⟨p1, _⟩, hl1⟩ := ((AAt.new w _ _ _).alloc _).below hb1; have X1 := Lib.hid (((AAt.new w _ _ _).alloc _).below hb1); have X2 := Lib.hid ((AAt.new2 w _ B0 B1 38).below hb1); have Y1 := Lib.hid (below_a ((Below.refl _ w).alloc (Nat.le_refl _) _) hb1); clear hb1)
  go_wp2_with (go_at_call 11; (with_reducible refine (C1.out _).mono ?_); rintro e w2 ⟨rfl, hb2⟩; have X3 := Lib.hid (X1.out.below hb2); have X4 := Lib.hid (X2.out.below hb2); have Y2 := Lib.hid (below2 Y1.out hb2); clear hb2)
  go_wp2_with (go_at_call 14; (with_reducible refine (C3.out _).mono ?_); rintro e w3 ⟨rfl, hb3⟩; have X5 := Lib.hid (X3.out.below hb3); obtain ⟨⟨p2, _⟩, ⟨p3, _⟩, hl2⟩ := X4.out.below hb3; have Y3 := Lib.hid (below2 Y2.out hb3); clear hb3)
  go_wp2_with (go_at_call 11; (with_reducible refine (C2.out _).mono ?_); rintro e w4 ⟨rfl, hb4⟩; have X6 := Lib.hid (X5.out.below hb4); have Y4 := Lib.hid (below2 Y3.out hb4); clear hb4)
  go_wp2_with (go_at_call 14; (with_reducible refine (C4.out _).mono ?_); rintro e w5 ⟨rfl, hb5⟩; obtain ⟨⟨p4, _⟩, ⟨p5, _⟩, hl3⟩ := X6.out.below hb5; have Y5 := Lib.hid (below2 Y4.out hb5); clear hb5)
  go_wp2_with (go_at_call 11; (with_reducible refine (C1.out _).mono ?_); rintro e w6 ⟨rfl, hb6⟩; have Y6 := Lib.hid (below2 Y5.out hb6); clear hb6)
  go_wp2_with (go_at_call 13; (with_reducible refine (PK.out _).mono ?_); rintro e w7 ⟨rfl, rfl⟩)
  obtain ⟨W7, hW7⟩ : ∃ W7, w6.alloc (.cells #[.string ⟨m.toArray⟩, .string ⟨s.toArray⟩, .string ⟨kk.toArray⟩] 23) = W7 := ⟨_, rfl⟩
  obtain ⟨W8, hW8⟩ : ∃ W8, W7.alloc (.cells #[.string ⟨#[117, 97, 103, 118]⟩, .string ⟨#[118, 50]⟩, .string ⟨m.toArray⟩, .string ⟨s.toArray⟩, .string ⟨kk.toArray⟩] 9) = W8 := ⟨_, rfl⟩
  have hsz : W7.heap.size = w6.heap.size + 1 := by rw [← hW7]; simp
  have HR : Hid (RowS W8 (w6.heap.size + 1) (partsT m s kk)) := by rw [← hW8, ← hsz]; exact RowS.new W7 m s kk _
  have Y8 : Hid (Below w.heap.size w W8) := by
    rw [← hW8, ← hW7]
    exact (Y6.out.alloc Y6.out.size _).alloc (by have := Y6.out.size; simp; omega) _
  rw [hW7, hW8]
  have hb0 : ∃ b, b = w6.heap.size + 1 := ⟨_, rfl⟩
  obtain ⟨b0, hb0⟩ := hb0
  rw [← hb0] at HR ⊢
  clear hW7 hW8 hsz hb0 C0 C1 C2 C3 C4 PK Y1 Y2 Y3 Y4 Y5 Y6 X1 X2 X3 X4 X5 X6 p0 p1 p2 p3 p4 p5 hl1 hl2 hl3
  have HOK := Lib.hid hok
  have HOK2 := Lib.hid hok2
  clear hok hok2
  have hzl : z < (partsT m s kk).length := by rw [partsT_len]; omega
  have hxl : (printL m s kk).length ≤ 60 := print_reach (printS_some.2 ⟨HOK.out, rfl⟩)
  have hyl : (printL m2 s2 kk2).length ≤ 60 := print_reach (printS_some.2 ⟨HOK2.out, rfl⟩)
  have F1 := Lib.hid (fun u => match_is (self_yes HOK.out) u (reach_small (by omega)) (reach_small (by omega)))
  have F4 := Lib.hid (fun u => match_is (hash_any (printL m s kk)) u (reach_small (by decide)) (reach_small (by omega)))
  have F5 := Lib.hid (fun u => match_is (two_same HOK.out HOK2.out) u (reach_small (by omega)) (reach_small (by omega)))
  have F6 := Lib.hid (fun u => match_is (more_back (q := [121]) HOK.out (by decide)) u (reach_small (by omega)) (reach_small (by rw [List.length_append]; show _ + 2 ≤ 100; omega)))
  have F7 := Lib.hid (fun u => match_is (more_no (q := [121]) HOK.out (by decide) (by decide)) u (reach_small (by rw [List.length_append]; show _ + 2 ≤ 100; omega)) (reach_small (by omega)))
  have F8 := Lib.hid (fun u => match_is (all_hash HOK.out) u (reach_small (by rw [List.length_append]; show _ + 2 ≤ 100; omega)) (reach_small (by omega)))
  rw [app_y] at F6 F7
  rw [app_hash] at F8
  have e0 := tl_dec (printL m s kk) (printL m2 s2 kk2)
  generalize decide (printL m s kk = printL m2 s2 kk2) = q at *
  have hpy := plus_yes HOK.out (j := z) hz4
  have hhy := hash_yes HOK.out (j := z) hz4
  have HSM : Hid (∀ p ∈ partsT m s kk, p.length ≤ 17) := fun p hp => by have := (partsT_small HOK.out p hp).2; omega
  have hhl : (hashL m s kk z).length ≤ 100 := by
    have := othL_len (partsT_len m s kk) HSM.out hz4
    unfold hashL
    rw [List.length_append]
    show _ + 1 ≤ 100
    omega
  have HOS : Hid (othL ((partsT m s kk).set z [43]) z = othL (partsT m s kk) z) := oth_set _ _ hz4
  obtain ⟨Q, hQ0⟩ : ∃ Q, (partsT m s kk).set z [43] = Q := ⟨_, rfl⟩
  have HQ := Lib.hid hQ0
  rw [hQ0] at hpy HOS
  clear hQ0
  have HQ5 : Hid (Q.length = 5) := by show _ = _; rw [← HQ.out, List.length_set, partsT_len]
  have HQ17 : Hid (∀ p ∈ Q, p.length ≤ 17) := by
    intro p hp
    rw [← HQ.out] at hp
    rcases List.mem_or_eq_of_mem_set hp with hp | rfl
    · exact HSM.out p hp
    · decide
  have hol : (joinL Q).length ≤ 100 := by
    have e := othL_last HQ5.out
    rw [othL_five] at e
    have h1 := othL_len HQ5.out HQ17.out (i := 4) (by omega)
    have h2 := HQ17.out _ (List.getElem_mem (l := Q) (n := 4) (by rw [HQ5.out]; omega))
    have h3 := flat_len (Q.take 4) (fun p hp => HQ17.out p (List.mem_of_mem_take hp))
    rw [e, List.length_append]
    unfold othL at h1 ⊢
    rw [if_pos (by omega)] at h1 ⊢
    rw [List.length_take, HQ5.out] at h3
    omega
  have F2 := Lib.hid (fun u => match_is hpy u (reach_small hol) (reach_small (by omega)))
  have F3 := Lib.hid (fun u => match_is hhy u (reach_small hhl) (reach_small (by omega)))
  have HHE : Hid ((⟨(othL Q z).toArray⟩ : ByteArray) ++ ⟨#[35]⟩ = ⟨(hashL m s kk z).toArray⟩) := by
    show _ = _
    rw [HOS.out, show (⟨#[35]⟩ : ByteArray) = ⟨([35] : List UInt8).toArray⟩ from rfl, bs_append]
    rfl
  have h2a : (⟨#[47, 35]⟩ : ByteArray).size = 2 := rfl
  have h2b : (⟨#[47, 121]⟩ : ByteArray).size = 2 := rfl
  rw [← othL_five Q] at F2
  rw [← bs_size] at hxl hyl
  clear hpy hhy hol hhl HOS
  generalize (⟨(hashL m s kk z).toArray⟩ : ByteArray) = HH at *
  generalize (⟨(printL m s kk).toArray⟩ : ByteArray) = X at *
  generalize (⟨(printL m2 s2 kk2).toArray⟩ : ByteArray) = Y at *
  go_loop [19, 20, 21] (fun oth hsh i => ∃ j : Nat, j ≤ 5 ∧ i = .int .i64 j ∧ oth = .string ⟨(othL Q j).toArray⟩ ∧ hsh = .string (if z < j then HH else ⟨#[]⟩)) (fun _ _ i => 10 - (intOf i).toNat)
  case atStart => exact ⟨0, by omega, rfl, rfl, by rw [if_neg (by omega)]⟩
  case round =>
    obtain ⟨j, hj5, rfl, rfl, rfl⟩ := hrel
    by_cases hlt : j < 5
    · have hjp : j < (partsT m s kk).length := by rw [partsT_len]; omega
      have hc := HR.out j hjp
      have hV := (partsT_small HOK.out _ (List.getElem_mem hjp)).2
      have hU := othL_len HQ5.out HQ17.out hlt
      rw [← bs_size] at hU hV
      have h47 : (⟨#[47]⟩ : ByteArray).size = 1 := rfl
      have h43 : (⟨#[43]⟩ : ByteArray).size = 1 := rfl
      have h35 : (⟨#[35]⟩ : ByteArray).size = 1 := rfl
      by_cases hjz : j = z
      · subst hjz
        have hb1 : ((j : Int) == (j : Int)) = true := beq_int_yes rfl
        have hq : Q[j]'(by rw [HQ5.out]; omega) = [43] := by
          have : Q[j]? = some [43] := by rw [← HQ.out, List.getElem?_set_self hzl]
          rw [List.getElem?_eq_getElem (by rw [HQ5.out]; omega)] at this
          exact Option.some.inj this
        rw [if_neg (by omega)]
        by_cases hj4 : j < 4
        · have HS : Hid ((⟨(othL Q j).toArray⟩ : ByteArray) ++ ⟨#[43]⟩ ++ ⟨#[47]⟩ = ⟨(othL Q (j + 1)).toArray⟩) := by
            show _ = _
            rw [othL_step HQ5.out hj4, hq, show (⟨#[43]⟩ : ByteArray) = ⟨([43] : List UInt8).toArray⟩ from rfl, show (⟨#[47]⟩ : ByteArray) = ⟨([47] : List UInt8).toArray⟩ from rfl, bs_append, bs_append]
          clear hq
          generalize (⟨(othL Q j).toArray⟩ : ByteArray) = U at *
          generalize (⟨((partsT m s kk)[j]).toArray⟩ : ByteArray) = V at *
          go_wp2_with fail
          go_round
          case rel => exact ⟨j + 1, by omega, by go_num, by rw [HS.out], by rw [if_pos (by omega), HHE.out]⟩
          case measure => simp [intOf]; omega
        · obtain rfl : j = 4 := by omega
          have HS : Hid ((⟨(othL Q 4).toArray⟩ : ByteArray) ++ ⟨#[43]⟩ = ⟨(othL Q (4 + 1)).toArray⟩) := by
            show _ = _
            rw [show 4 + 1 = 5 from rfl, othL_last HQ5.out, hq, show (⟨#[43]⟩ : ByteArray) = ⟨([43] : List UInt8).toArray⟩ from rfl, bs_append]
          clear hq
          generalize (⟨(othL Q 4).toArray⟩ : ByteArray) = U at *
          generalize (⟨((partsT m s kk)[4]).toArray⟩ : ByteArray) = V at *
          go_wp2_with fail
          go_round
          case rel => exact ⟨4 + 1, by omega, by go_num, by rw [HS.out], by rw [if_pos (by omega), HHE.out]⟩
          case measure => simp [intOf]
      · have hb1 : ((j : Int) == (z : Int)) = false := beq_int_no (by omega)
        have hq : Q[j]'(by rw [HQ5.out]; omega) = (partsT m s kk)[j] := by
          have : Q[j]? = some ((partsT m s kk)[j]) := by rw [← HQ.out, List.getElem?_set_ne (by omega), List.getElem?_eq_getElem hjp]
          rw [List.getElem?_eq_getElem (by rw [HQ5.out]; omega)] at this
          exact Option.some.inj this
        have HIF : Hid ((if z < j then HH else (⟨#[]⟩ : ByteArray)) = if z < j + 1 then HH else ⟨#[]⟩) := by
          show _ = _
          by_cases h : z < j
          · rw [if_pos h, if_pos (by omega)]
          · rw [if_neg h, if_neg (by omega)]
        rw [HIF.out]
        obtain ⟨IH, hIE⟩ : ∃ IH, (if z < j + 1 then HH else (⟨#[]⟩ : ByteArray)) = IH := ⟨_, rfl⟩
        have HIE := Lib.hid hIE
        rw [hIE]
        clear hIE HIF
        by_cases hj4 : j < 4
        · have HS : Hid ((⟨(othL Q j).toArray⟩ : ByteArray) ++ ⟨((partsT m s kk)[j]).toArray⟩ ++ ⟨#[47]⟩ = ⟨(othL Q (j + 1)).toArray⟩) := by
            show _ = _
            rw [othL_step HQ5.out hj4, hq, show (⟨#[47]⟩ : ByteArray) = ⟨([47] : List UInt8).toArray⟩ from rfl, bs_append, bs_append]
          clear hq hjz
          generalize (⟨(othL Q j).toArray⟩ : ByteArray) = U at *
          generalize (⟨((partsT m s kk)[j]).toArray⟩ : ByteArray) = V at *
          go_wp2_with fail
          go_round
          case rel => exact ⟨j + 1, by omega, by go_num, by rw [HS.out], by rw [HIE.out]⟩
          case measure => simp [intOf]; omega
        · obtain rfl : j = 4 := by omega
          have HS : Hid ((⟨(othL Q 4).toArray⟩ : ByteArray) ++ ⟨((partsT m s kk)[4]).toArray⟩ = ⟨(othL Q (4 + 1)).toArray⟩) := by
            show _ = _
            rw [show 4 + 1 = 5 from rfl, othL_last HQ5.out, hq, bs_append]
          clear hq hjz
          generalize (⟨(othL Q 4).toArray⟩ : ByteArray) = U at *
          generalize (⟨((partsT m s kk)[4]).toArray⟩ : ByteArray) = V at *
          go_wp2_with fail
          go_round
          case rel => exact ⟨4 + 1, by omega, by go_num, by rw [HS.out], by rw [HIE.out]⟩
          case measure => simp [intOf]
    · obtain rfl : j = 5 := by omega
      rw [if_pos (by omega)]
      generalize (⟨(othL Q 5).toArray⟩ : ByteArray) = O5 at *
      clear hlt hj5 HQ HQ5 HQ17 HR hzl HHE HSM
      go_wp2_with (first | (go_at_call 19; (with_reducible refine (F1.out _).mono ?_); rintro e v1 ⟨rfl, hb1⟩; have Z1 := Lib.hid (below2 Y8.out hb1); clear hb1) | (go_at_call 19; (with_reducible refine (F2.out _).mono ?_); rintro e v2 ⟨rfl, hb2⟩; have Z2 := Lib.hid (below2 Z1.out hb2); clear hb2) | (go_at_call 19; (with_reducible refine (F3.out _).mono ?_); rintro e v3 ⟨rfl, hb3⟩; have Z3 := Lib.hid (below2 Z2.out hb3); clear hb3) | (go_at_call 19; (with_reducible refine (F4.out _).mono ?_); rintro e v4 ⟨rfl, hb4⟩; have Z4 := Lib.hid (below2 Z3.out hb4); clear hb4) | (go_at_call 19; (with_reducible refine (F5.out _).mono ?_); rintro e v5 ⟨rfl, hb5⟩; have Z5 := Lib.hid (below2 Z4.out hb5); clear hb5) | (go_at_call 19; (with_reducible refine (F6.out _).mono ?_); rintro e v6 ⟨rfl, hb6⟩; have Z6 := Lib.hid (below2 Z5.out hb6); clear hb6) | (go_at_call 19; (with_reducible refine (F7.out _).mono ?_); rintro e v7 ⟨rfl, hb7⟩; have Z7 := Lib.hid (below2 Z6.out hb7); clear hb7) | (go_at_call 19; (with_reducible refine (F8.out _).mono ?_); rintro e v8 ⟨rfl, hb8⟩; have Z8 := Lib.hid (below2 Z7.out hb8); clear hb8))
      go_ret
      exact ⟨rfl, Z8.out⟩
end Go.Proofs.Ytnjcfnmdelpecaa.Tp
