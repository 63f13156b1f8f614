/- The law StateTaken (what is taken is right, and, laid, it is taken as the same) answers true for all inputs; taken that Go's own tables (those of strconv, math/bits and unicode/utf8) hold what the program's text lays, which the card ties. -/
import Derived.Test.YtcpggmdiojaalaaGreatDoorMAj
import Derived.Test.YtcpggmdiojaalaaGreatDoorGs
import Derived.Test.YtcpggmdiojaalaaGreatDoorAF
import Derived.ShutString
import Derived.Test.YtcpggmdiojaalaaGreatDoorMG
/- StateTaken: what is taken is right, and, laid, it is taken as the same. -/
set_option linter.unusedVariables false
set_option linter.unusedSimpArgs false
namespace Go.Proofs.YtcpggmdiojaalaaGreatDoor.Sta
open Go.RowKit Js Lex Od

theorem takeS9_cases2 (s : List UInt8) : (∃ e, takeS9 Tp.nameB s = (e, none) ∧ e ≠ 0) ∨ ∃ o, takeS9 Tp.nameB s = (0, some o) ∧ rightT Tp.nameB o = true := by
  rcases takeS9_cases Tp.nameB s with ⟨e, he, h⟩ | ⟨x, h⟩
  · exact .inl ⟨e, h, he⟩
  · exact .inr ⟨x, h, takeS9_right h⟩
theorem wrap_id {z : Int} (h0 : -9223372036854775808 ≤ z) (h1 : z ≤ 9223372036854775807) : IntKind.i64.wrap z = z := by
  simp [IntKind.wrap, IntKind.bits, IntKind.signed] <;> omega
theorem take_err9 {s : List UInt8} {k : Int} (h : takeS9 Tp.nameB s = (k, none)) (w : World) (hs : s.length ≤ 281474976710656) : Calls Tryz.prog 41 #[.string ⟨s.toArray⟩] w (Ret (.tuple #[.agg #[.int .i64 0, .int .i64 0, .string ⟨#[]⟩, .int .i64 0, .int .i64 0, .bool false, .int .i64 0, .int .i64 0, .bool false, .int .i64 0], .int .i64 k]) w) := by
  have := Take9_any s w hs
  rwa [h] at this
theorem take_ok9 {s : List UInt8} {y : S9} (h : takeS9 Tp.nameB s = (0, some y)) (w : World) (hs : s.length ≤ 281474976710656) : Calls Tryz.prog 41 #[.string ⟨s.toArray⟩] w (Ret (.tuple #[sV y, .int .i64 0]) w) := by
  have := Take9_any s w hs
  rwa [h] at this
/-- Two strings, laid. -/
def TwoV (A B : List UInt8) (z : Value) (w : World) : Prop := ∃ b, z = .slice (some ⟨b, 0, none⟩) 2 2 ∧ w.heap[b]? = some (.cells #[.string ⟨A.toArray⟩, .string ⟨B.toArray⟩] 9 (0, 0))
theorem TwoV.stable (A B : List UInt8) : Stable (TwoV A B) := fun z w w' ⟨b, hz, hb⟩ hB => ⟨b, hz, (hB.block _ (Own.block_lt hb)).trans hb⟩

set_option maxHeartbeats 16000000 in
set_option maxRecDepth 100000 in
theorem taken9_walk (s : List UInt8) (x : S9) (at0 : Int) (more : List UInt8) (w : World) (hT : Dec.Tab w) (hs : s.length ≤ 140737488351232) (hx : x.ok) (a0 : -9223372036854775808 ≤ at0) (a1 : at0 ≤ 9223372036854775807) (hm : more.length ≤ 140737488351232) :
    Calls Tryz.prog 7 #[.string ⟨s.toArray⟩, sV x, .int .i64 at0, .string ⟨more.toArray⟩] w (Ret (.bool true) w) := by
  have A1 := Lib.hid (fun (w' : World) (hb : Below w.heap.size w w') => awake9_any w' (hT.below hb))
  have F1 := Lib.hid (fun (w' : World) => fit9_any x w' hx)
  have hr := fit9_right Tp.fit_name x
  generalize fit9 Tp.fitL x = y at *
  have L1 := Lib.hid (fun (w' : World) (hb : Below w.heap.size w w') => lay9_yes hr w' (hT.below hb))
  have hlen := lay9_len name_ok hr
  obtain ⟨U, hU⟩ : ∃ U, printJ (layJ9 y) = U := ⟨_, rfl⟩
  have hTU : layS9 y = U ++ Se.tailS U := by unfold layS9 Se.sealS; rw [hU]
  have htl : (layS9 y).length = U.length + 9 := by rw [hTU, List.length_append, Se.tailS_len]
  rw [hU] at hlen
  have hsz : (⟨(layS9 y).toArray⟩ : ByteArray).size = U.length + 9 := by rw [bs_size, htl]
  have hex : (⟨(layS9 y).toArray⟩ : ByteArray).extract 0 U.length = ⟨U.toArray⟩ := by rw [Se.bs_take, hTU, List.take_left]
  have husz : (⟨U.toArray⟩ : ByteArray).size = U.length := bs_size U
  have pk0 := Quo.pickS_nonneg (c := at0) (n := (U.length : Int) + 1) (by omega)
  have pk1 := Quo.pickS_lt (c := at0) (n := (U.length : Int) + 1) (by omega)
  have PK := Lib.hid (fun (u : World) => pick9_any at0 ((U.length : Int) + 1) u a0 a1 (by omega) (by omega))
  generalize Quo.pickS at0 ((U.length : Int) + 1) = m at *
  obtain ⟨k, rfl⟩ := Int.eq_ofNat_of_zero_le pk0
  have hk : k ≤ U.length := by omega
  obtain ⟨n, hn⟩ : ∃ n, U.length = n := ⟨_, rfl⟩
  rw [hn] at hsz hex husz PK hk hlen
  have HEX := Lib.hid hex
  have HN := Lib.hid hn
  clear hex hr hTU hU htl pk0 pk1 hn hx
  generalize (⟨(layS9 y).toArray⟩ : ByteArray) = TS at *
  generalize hus : (⟨U.toArray⟩ : ByteArray) = US at *
  have HUS := Lib.hid hus
  clear hus
  obtain ⟨lm, HLM⟩ : ∃ lm, Hid (more.length = lm) := ⟨_, rfl⟩
  have hM := bs_size more
  rw [HLM.out] at hM hm
  generalize (⟨more.toArray⟩ : ByteArray) = M at *
  have SE1 := Lib.hid (fun (u : World) => Se.seal_l s u (by omega))
  have hT0 : (Se.sealS s).length ≤ 281474976710656 := by rw [Se.sealS_len]; omega
  generalize Se.sealS s = T0 at *
  obtain ⟨mn, HMN⟩ : ∃ mn : Nat, Hid ((if (n : Int) < (k : Int) + (lm : Int) then (n : Int) else (k : Int) + (lm : Int)) = (mn : Int)) := by
    split
    · exact ⟨n, rfl⟩
    · exact ⟨k + lm, by show _ = _; omega⟩
  have hmn : mn ≤ n := by have := HMN.out; split at this <;> omega
  obtain ⟨E1, HE1⟩ : ∃ E1, Hid (US.extract 0 k = E1) := ⟨_, rfl⟩
  have hE1 : E1.size = k := by rw [← HE1.out, ByteArray.size_extract]; omega
  obtain ⟨E2, HE2⟩ : ∃ E2, Hid (US.extract mn n = E2) := ⟨_, rfl⟩
  have hE2 : E2.size = n - mn := by rw [← HE2.out, ByteArray.size_extract]; omega
  obtain ⟨E3, HE3⟩ : ∃ E3, Hid (E1 ++ M = E3) := ⟨_, rfl⟩
  have hE3 : E3.size = k + lm := by rw [← HE3.out, ByteArray.size_append]; omega
  obtain ⟨X4, HX4⟩ : ∃ X4, Hid (E3 ++ E2 = X4) := ⟨_, rfl⟩
  have hX4 : X4.size = k + lm + (n - mn) := by rw [← HX4.out, ByteArray.size_append]; omega
  have SE2 := Lib.hid (fun (u : World) => Se.seal_any X4 u (by omega))
  have hT1 : (Se.sealS X4.data.toList).length ≤ 281474976710656 := by
    rw [Se.sealS_len, Array.length_toList]
    show X4.size + 9 ≤ _
    omega
  generalize Se.sealS X4.data.toList = T1 at *
  have G1 : Hid (¬ 9223372036854775807 < k + lm) := by show ¬ _; omega
  have G2 : Hid (¬ 9223372036854775807 < k + lm + (n - mn)) := by show ¬ _; omega
  have W1 : Hid (IntKind.i64.wrap ((k : Int) + (lm : Int)) = (k : Int) + (lm : Int)) := wrap_id (by omega) (by omega)
  have HT0 := Lib.hid hT0
  have HT1 := Lib.hid hT1
  clear hT0 hT1
  obtain ⟨hd, bo, nm, od, up, lv, nd, sq, dr, ac⟩ := x
  obtain ⟨hd1, bo1, nm1, od1, up1, lv1, nd1, sq1, dr1, ac1⟩ := y
  unfold sV sC at *
  simp only at F1 L1
  have B0 := Lib.hid (belowOne w (.cells #[.int .i64 hd, .int .i64 bo, .string ⟨nm.toArray⟩, .int .i64 od, .int .i64 up, .bool lv, .int .i64 nd, .int .i64 sq, .bool dr, .int .i64 ac] 53))
  have X0 := Lib.hid (BX9.new w #[.int .i64 hd, .int .i64 bo, .string ⟨nm.toArray⟩, .int .i64 od, .int .i64 up, .bool lv, .int .i64 nd, .int .i64 sq, .bool dr, .int .i64 ac])
  go_enter Tryz.func7, Tryz.ntmps7
  go_upto_region 7 with (first
    | (go_at_call 32; (with_reducible refine (A1.out _ B0.out).mono ?_); rintro e1 w1 ⟨rfl, hb1⟩; have B1 := Lib.hid (below_next B0.out hb1); have X1 := Lib.hid (X0.out.below hb1); obtain ⟨x0, x1, x2, x3, x4, x5, x6, x7, x8, x9⟩ := ten_of X1.out.blk; clear hb1)
    | (go_at_call 33; (with_reducible refine (F1.out _).mono ?_); rintro e2 w2 ⟨rfl, hb2⟩; have B2 := Lib.hid (below_next B1.out hb2); clear hb2 x0 x1 x2 x3 x4 x5 x6 x7 x8 x9)
    | (go_at_call 34; (with_reducible refine (L1.out _ B2.out).mono ?_); rintro e3 w3 ⟨rfl, hb3⟩; have B3 := Lib.hid (below_next B2.out hb3); have hex := HEX.out; clear hb3)
    | (go_at_call 40; (with_reducible refine (PK.out _).mono ?_); rintro e4 w4 ⟨rfl, rfl⟩))
  rename_i h9 K1 A1' K2 A2'
  refine wp_region_grow_all mixed8 (fun zs => { tmps := List.toArray (Value.string ⟨s.toArray⟩ :: Value.agg #[.int .i64 hd, .int .i64 bo, .string ⟨nm.toArray⟩, .int .i64 od, .int .i64 up, .bool lv, .int .i64 nd, .int .i64 sq, .bool dr, .int .i64 ac] :: Value.int .i64 (at0) :: Value.string M :: undef :: Value.pointer (some ⟨w.heap.size, 0, none⟩) :: undef :: undef :: Value.bool false :: Value.bool true :: Value.string TS :: Value.int .i64 (0) :: Value.string US :: Value.int .i64 ((k : Int)) :: undef :: undef :: undef :: undef :: undef :: undef :: undef :: undef :: Value.bool true :: Value.tuple #[.string TS, .int .i64 0] :: Value.agg #[.int .i64 hd, .int .i64 bo, .string ⟨nm.toArray⟩, .int .i64 od, .int .i64 up, .bool lv, .int .i64 nd, .int .i64 sq, .bool dr, .int .i64 ac] :: Value.agg #[.int .i64 hd1, .int .i64 bo1, .string ⟨nm1.toArray⟩, .int .i64 od1, .int .i64 up1, .bool lv1, .int .i64 nd1, .int .i64 sq1, .bool dr1, .int .i64 ac1] :: Value.tuple #[.string TS, .int .i64 0] :: Value.string TS :: Value.int .i64 (0) :: Value.bool true :: Value.bool false :: Value.bool false :: Value.int .i64 (0) :: Value.bool false :: Value.bool false :: Value.bool false :: Value.string TS :: Value.int .i64 ((n : Int) + 9) :: Value.bool (decide ((n : Int) + 9 < 9)) :: Value.bool (decide ((n : Int) + 9 < 9)) :: Value.string TS :: Value.string TS :: Value.int .i64 ((n : Int) + 9) :: Value.int .i64 ((n : Int)) :: Value.string US :: Value.int .i64 (at0) :: Value.string US :: Value.int .i64 ((n : Int)) :: Value.int .i64 ((n : Int) + 1) :: Value.int .i64 ((k : Int)) :: zs.getD 0 undef :: zs.getD 1 undef :: zs.getD 2 undef :: zs.getD 3 undef :: zs.getD 4 undef :: zs.getD 5 undef :: zs.getD 6 undef :: zs.getD 7 undef :: zs.getD 8 undef :: zs.getD 9 undef :: zs.getD 10 undef :: zs.getD 11 undef :: zs.getD 12 undef :: zs.getD 13 undef :: zs.getD 14 undef :: zs.getD 15 undef :: zs.getD 16 undef :: zs.getD 17 undef :: zs.getD 18 undef :: zs.getD 19 undef :: zs.getD 20 undef :: undef :: undef :: undef :: undef :: undef :: undef :: undef :: undef :: undef :: undef :: undef :: undef :: undef :: undef :: undef :: undef :: undef :: undef :: undef :: undef :: undef :: undef :: undef :: undef :: undef :: undef :: undef :: undef :: undef :: undef :: undef :: undef :: undef :: undef :: undef :: undef :: undef :: undef :: undef :: undef :: []), defers := [] }) [(fun z _ => z = Value.string ⟨s.toArray⟩), (fun z _ => z = Value.string ⟨T0.toArray⟩), (fun z _ => z = Value.string US), (fun z _ => z = Value.int .i64 ((k : Int))), (fun z _ => z = Value.string E1), (fun z _ => z = Value.string M), (fun z _ => z = Value.string E3), (fun z _ => z = Value.string US), (fun z _ => z = Value.int .i64 ((k : Int))), (fun z _ => z = Value.string M), (fun z _ => z = Value.int .i64 ((lm : Int))), (fun z _ => z = Value.int .i64 ((k : Int) + (lm : Int))), (fun z _ => z = Value.string US), (fun z _ => z = Value.int .i64 ((n : Int))), (fun z _ => z = Value.int .i64 ((mn : Int))), (fun z _ => z = Value.string E2), (fun z _ => z = Value.string X4), (fun z _ => z = Value.string ⟨T1.toArray⟩), (TwoV T0 T1), (fun z _ => z = Value.int .i64 (2)), (fun z _ => z = Value.int .i64 (0))] (List.replicate 21 undef) rfl rfl rfl ?_ (by kernel_rfl) ?_ ?_
  · intro p hp
    simp only [List.mem_cons, List.not_mem_nil, or_false] at hp
    rcases hp with rfl | rfl | rfl | rfl | rfl | rfl | rfl | rfl | rfl | rfl | rfl | rfl | rfl | rfl | rfl | rfl | rfl | rfl | rfl | rfl | rfl
    all_goals first | exact stable_eq _ | exact TwoV.stable _ _
  · clear A1' A2' F1 A1 L1 PK X1 X0 hex HEX
    intro i hi zs l wz o hz hF ho hpre
    have hi' : i < 21 := hi
    match zs, (show zs.length = 21 from hz) with
    | [z0, z1, z2, z3, z4, z5, z6, z7, z8, z9, z10, z11, z12, z13, z14, z15, z16, z17, z18, z19, z20], _ =>
      clear hz hi
      change wpOp _ _ _ _ _ { tmps := List.toArray (Value.string ⟨s.toArray⟩ :: Value.agg #[.int .i64 hd, .int .i64 bo, .string ⟨nm.toArray⟩, .int .i64 od, .int .i64 up, .bool lv, .int .i64 nd, .int .i64 sq, .bool dr, .int .i64 ac] :: Value.int .i64 (at0) :: Value.string M :: undef :: Value.pointer (some ⟨w.heap.size, 0, none⟩) :: undef :: undef :: Value.bool false :: Value.bool true :: Value.string TS :: Value.int .i64 (0) :: Value.string US :: Value.int .i64 ((k : Int)) :: undef :: undef :: undef :: undef :: undef :: undef :: undef :: undef :: Value.bool true :: Value.tuple #[.string TS, .int .i64 0] :: Value.agg #[.int .i64 hd, .int .i64 bo, .string ⟨nm.toArray⟩, .int .i64 od, .int .i64 up, .bool lv, .int .i64 nd, .int .i64 sq, .bool dr, .int .i64 ac] :: Value.agg #[.int .i64 hd1, .int .i64 bo1, .string ⟨nm1.toArray⟩, .int .i64 od1, .int .i64 up1, .bool lv1, .int .i64 nd1, .int .i64 sq1, .bool dr1, .int .i64 ac1] :: Value.tuple #[.string TS, .int .i64 0] :: Value.string TS :: Value.int .i64 (0) :: Value.bool true :: Value.bool false :: Value.bool false :: Value.int .i64 (0) :: Value.bool false :: Value.bool false :: Value.bool false :: Value.string TS :: Value.int .i64 ((n : Int) + 9) :: Value.bool (decide ((n : Int) + 9 < 9)) :: Value.bool (decide ((n : Int) + 9 < 9)) :: Value.string TS :: Value.string TS :: Value.int .i64 ((n : Int) + 9) :: Value.int .i64 ((n : Int)) :: Value.string US :: Value.int .i64 (at0) :: Value.string US :: Value.int .i64 ((n : Int)) :: Value.int .i64 ((n : Int) + 1) :: Value.int .i64 ((k : Int)) :: z0 :: z1 :: z2 :: z3 :: z4 :: z5 :: z6 :: z7 :: z8 :: z9 :: z10 :: z11 :: z12 :: z13 :: z14 :: z15 :: z16 :: z17 :: z18 :: z19 :: z20 :: undef :: undef :: undef :: undef :: undef :: undef :: undef :: undef :: undef :: undef :: undef :: undef :: undef :: undef :: undef :: undef :: undef :: undef :: undef :: undef :: undef :: undef :: undef :: undef :: undef :: undef :: undef :: undef :: undef :: undef :: undef :: undef :: undef :: undef :: undef :: undef :: undef :: undef :: undef :: undef :: []), defers := [] } _
      have hc : i = 0 ∨ i = 1 ∨ i = 2 ∨ i = 3 ∨ i = 4 ∨ i = 5 ∨ i = 6 ∨ i = 7 ∨ i = 8 ∨ i = 9 ∨ i = 10 ∨ i = 11 ∨ i = 12 ∨ i = 13 ∨ i = 14 ∨ i = 15 ∨ i = 16 ∨ i = 17 ∨ i = 18 ∨ i = 19 ∨ i = 20 := by omega
      clear hi'
      rcases hc with rfl | rfl | rfl | rfl | rfl | rfl | rfl | rfl | rfl | rfl | rfl | rfl | rfl | rfl | rfl | rfl | rfl | rfl | rfl | rfl | rfl
      · clear ho hpre
        refine wpOp_here rfl (fun K' hK => ?_)
        go_simp
        exact hK _ _ ⟨_, rfl, Below.refl _ _, fun p hp => by cases (show some (fun z _ => z = Value.string ⟨s.toArray⟩) = some p from hp); exact rfl⟩
      · have p0 := hF.fact 0 _ _ rfl rfl (hpre ⟨0, .data⟩ (by cases ho; simp) rfl)
        subst p0
        clear ho hpre
        refine wpOp_here rfl (fun K' hK => ?_)
        go_simp
        refine (SE1.out _).mono ?_
        rintro e6 w6 ⟨rfl, hb6⟩
        exact hK _ _ ⟨_, rfl, hb6, fun p hp => by cases (show some (fun z _ => z = Value.string ⟨T0.toArray⟩) = some p from hp); exact rfl⟩
      · clear ho hpre
        refine wpOp_here rfl (fun K' hK => ?_)
        go_simp
        exact hK _ _ ⟨_, rfl, Below.refl _ _, fun p hp => by cases (show some (fun z _ => z = Value.string US) = some p from hp); exact rfl⟩
      · clear ho hpre
        refine wpOp_here rfl (fun K' hK => ?_)
        go_simp
        exact hK _ _ ⟨_, rfl, Below.refl _ _, fun p hp => by cases (show some (fun z _ => z = Value.int .i64 ((k : Int))) = some p from hp); exact rfl⟩
      · have p2 := hF.fact 2 _ _ rfl rfl (hpre ⟨2, .data⟩ (by cases ho; simp) rfl)
        subst p2
        have p3 := hF.fact 3 _ _ rfl rfl (hpre ⟨3, .data⟩ (by cases ho; simp) rfl)
        subst p3
        clear ho hpre
        refine wpOp_here rfl (fun K' hK => ?_)
        go_simp
        rw [HE1.out]
        exact hK _ _ ⟨_, rfl, Below.refl _ _, fun p hp => by cases (show some (fun z _ => z = Value.string E1) = some p from hp); exact rfl⟩
      · clear ho hpre
        refine wpOp_here rfl (fun K' hK => ?_)
        go_simp
        exact hK _ _ ⟨_, rfl, Below.refl _ _, fun p hp => by cases (show some (fun z _ => z = Value.string M) = some p from hp); exact rfl⟩
      · have p4 := hF.fact 4 _ _ rfl rfl (hpre ⟨4, .data⟩ (by cases ho; simp) rfl)
        subst p4
        have p5 := hF.fact 5 _ _ rfl rfl (hpre ⟨5, .data⟩ (by cases ho; simp) rfl)
        subst p5
        clear ho hpre
        refine wpOp_here rfl (fun K' hK => ?_)
        go_simp
        rw [HE3.out, if_neg G1.out]
        go_simp
        exact hK _ _ ⟨_, rfl, Below.refl _ _, fun p hp => by cases (show some (fun z _ => z = Value.string E3) = some p from hp); exact rfl⟩
      · clear ho hpre
        refine wpOp_here rfl (fun K' hK => ?_)
        go_simp
        exact hK _ _ ⟨_, rfl, Below.refl _ _, fun p hp => by cases (show some (fun z _ => z = Value.string US) = some p from hp); exact rfl⟩
      · clear ho hpre
        refine wpOp_here rfl (fun K' hK => ?_)
        go_simp
        exact hK _ _ ⟨_, rfl, Below.refl _ _, fun p hp => by cases (show some (fun z _ => z = Value.int .i64 ((k : Int))) = some p from hp); exact rfl⟩
      · clear ho hpre
        refine wpOp_here rfl (fun K' hK => ?_)
        go_simp
        exact hK _ _ ⟨_, rfl, Below.refl _ _, fun p hp => by cases (show some (fun z _ => z = Value.string M) = some p from hp); exact rfl⟩
      · have p9 := hF.fact 9 _ _ rfl rfl (hpre ⟨9, .data⟩ (by cases ho; simp) rfl)
        subst p9
        clear ho hpre
        refine wpOp_here rfl (fun K' hK => ?_)
        go_simp
        exact hK _ _ ⟨_, rfl, Below.refl _ _, fun p hp => by cases (show some (fun z _ => z = Value.int .i64 ((lm : Int))) = some p from hp); exact rfl⟩
      · have p8 := hF.fact 8 _ _ rfl rfl (hpre ⟨8, .data⟩ (by cases ho; simp) rfl)
        subst p8
        have p10 := hF.fact 10 _ _ rfl rfl (hpre ⟨10, .data⟩ (by cases ho; simp) rfl)
        subst p10
        clear ho hpre
        refine wpOp_here rfl (fun K' hK => ?_)
        go_simp
        rw [W1.out]
        exact hK _ _ ⟨_, rfl, Below.refl _ _, fun p hp => by cases (show some (fun z _ => z = Value.int .i64 ((k : Int) + (lm : Int))) = some p from hp); exact rfl⟩
      · clear ho hpre
        refine wpOp_here rfl (fun K' hK => ?_)
        go_simp
        exact hK _ _ ⟨_, rfl, Below.refl _ _, fun p hp => by cases (show some (fun z _ => z = Value.string US) = some p from hp); exact rfl⟩
      · have p12 := hF.fact 12 _ _ rfl rfl (hpre ⟨12, .data⟩ (by cases ho; simp) rfl)
        subst p12
        clear ho hpre
        refine wpOp_here rfl (fun K' hK => ?_)
        go_simp
        exact hK _ _ ⟨_, rfl, Below.refl _ _, fun p hp => by cases (show some (fun z _ => z = Value.int .i64 ((n : Int))) = some p from hp); exact rfl⟩
      · have p11 := hF.fact 11 _ _ rfl rfl (hpre ⟨11, .data⟩ (by cases ho; simp) rfl)
        subst p11
        have p13 := hF.fact 13 _ _ rfl rfl (hpre ⟨13, .data⟩ (by cases ho; simp) rfl)
        subst p13
        clear ho hpre
        refine wpOp_here rfl (fun K' hK => ?_)
        go_simp
        exact hK _ _ ⟨_, rfl, Below.refl _ _, fun p hp => by cases (show some (fun z _ => z = Value.int .i64 ((mn : Int))) = some p from hp); exact congrArg (Value.int .i64) (by have := HMN.out; split at this <;> omega)⟩
      · have p7 := hF.fact 7 _ _ rfl rfl (hpre ⟨7, .data⟩ (by cases ho; simp) rfl)
        subst p7
        have p14 := hF.fact 14 _ _ rfl rfl (hpre ⟨14, .data⟩ (by cases ho; simp) rfl)
        subst p14
        clear ho hpre
        refine wpOp_here rfl (fun K' hK => ?_)
        go_simp
        rw [HE2.out]
        exact hK _ _ ⟨_, rfl, Below.refl _ _, fun p hp => by cases (show some (fun z _ => z = Value.string E2) = some p from hp); exact rfl⟩
      · have p6 := hF.fact 6 _ _ rfl rfl (hpre ⟨6, .data⟩ (by cases ho; simp) rfl)
        subst p6
        have p15 := hF.fact 15 _ _ rfl rfl (hpre ⟨15, .data⟩ (by cases ho; simp) rfl)
        subst p15
        clear ho hpre
        refine wpOp_here rfl (fun K' hK => ?_)
        go_simp
        rw [HX4.out, if_neg G2.out]
        go_simp
        exact hK _ _ ⟨_, rfl, Below.refl _ _, fun p hp => by cases (show some (fun z _ => z = Value.string X4) = some p from hp); exact rfl⟩
      · have p16 := hF.fact 16 _ _ rfl rfl (hpre ⟨16, .data⟩ (by cases ho; simp) rfl)
        subst p16
        clear ho hpre
        refine wpOp_here rfl (fun K' hK => ?_)
        go_simp
        refine (SE2.out _).mono ?_
        rintro e6 w6 ⟨rfl, hb6⟩
        exact hK _ _ ⟨_, rfl, hb6, fun p hp => by cases (show some (fun z _ => z = Value.string ⟨T1.toArray⟩) = some p from hp); exact rfl⟩
      · have p1 := hF.fact 1 _ _ rfl rfl (hpre ⟨1, .data⟩ (by cases ho; simp) rfl)
        subst p1
        have p17 := hF.fact 17 _ _ rfl rfl (hpre ⟨17, .data⟩ (by cases ho; simp) rfl)
        subst p17
        clear ho hpre
        refine wpOp_here rfl (fun K' hK => ?_)
        go_simp
        exact hK _ _ ⟨_, rfl, belowOne _ _, fun p hp => by cases (show some (TwoV T0 T1) = some p from hp); exact ⟨_, rfl, heap_alloc_new _ _⟩⟩
      · obtain ⟨b6, rfl, hb6⟩ := hF.fact 18 _ _ rfl rfl (hpre ⟨18, .data⟩ (by cases ho; simp) rfl)
        clear ho hpre
        refine wpOp_here rfl (fun K' hK => ?_)
        go_simp
        exact hK _ _ ⟨_, rfl, Below.refl _ _, fun p hp => by cases (show some (fun z _ => z = Value.int .i64 (2)) = some p from hp); exact rfl⟩
      · clear ho hpre
        refine wpOp_here rfl (fun K' hK => ?_)
        go_simp
        exact hK _ _ ⟨_, rfl, Below.refl _ _, fun p hp => by cases (show some (fun z _ => z = Value.int .i64 (0)) = some p from hp); exact rfl⟩
  · intro zs wz hz hB hev
    match zs, (show zs.length = 21 from hz) with
    | [z0, z1, z2, z3, z4, z5, z6, z7, z8, z9, z10, z11, z12, z13, z14, z15, z16, z17, z18, z19, z20], _ =>
      obtain ⟨b6, e18, hb6⟩ := hev 18 _ _ rfl rfl
      have e19 := hev 19 _ _ rfl rfl
      have e20 := hev 20 _ _ rfl rfl
      clear hev hz
      refine A2' _ _ ?_
      change Code.wp _ _ _ { tmps := List.toArray (Value.string ⟨s.toArray⟩ :: Value.agg #[.int .i64 hd, .int .i64 bo, .string ⟨nm.toArray⟩, .int .i64 od, .int .i64 up, .bool lv, .int .i64 nd, .int .i64 sq, .bool dr, .int .i64 ac] :: Value.int .i64 (at0) :: Value.string M :: undef :: Value.pointer (some ⟨w.heap.size, 0, none⟩) :: undef :: undef :: Value.bool false :: Value.bool true :: Value.string TS :: Value.int .i64 (0) :: Value.string US :: Value.int .i64 ((k : Int)) :: undef :: undef :: undef :: undef :: undef :: undef :: undef :: undef :: Value.bool true :: Value.tuple #[.string TS, .int .i64 0] :: Value.agg #[.int .i64 hd, .int .i64 bo, .string ⟨nm.toArray⟩, .int .i64 od, .int .i64 up, .bool lv, .int .i64 nd, .int .i64 sq, .bool dr, .int .i64 ac] :: Value.agg #[.int .i64 hd1, .int .i64 bo1, .string ⟨nm1.toArray⟩, .int .i64 od1, .int .i64 up1, .bool lv1, .int .i64 nd1, .int .i64 sq1, .bool dr1, .int .i64 ac1] :: Value.tuple #[.string TS, .int .i64 0] :: Value.string TS :: Value.int .i64 (0) :: Value.bool true :: Value.bool false :: Value.bool false :: Value.int .i64 (0) :: Value.bool false :: Value.bool false :: Value.bool false :: Value.string TS :: Value.int .i64 ((n : Int) + 9) :: Value.bool (decide ((n : Int) + 9 < 9)) :: Value.bool (decide ((n : Int) + 9 < 9)) :: Value.string TS :: Value.string TS :: Value.int .i64 ((n : Int) + 9) :: Value.int .i64 ((n : Int)) :: Value.string US :: Value.int .i64 (at0) :: Value.string US :: Value.int .i64 ((n : Int)) :: Value.int .i64 ((n : Int) + 1) :: Value.int .i64 ((k : Int)) :: z0 :: z1 :: z2 :: z3 :: z4 :: z5 :: z6 :: z7 :: z8 :: z9 :: z10 :: z11 :: z12 :: z13 :: z14 :: z15 :: z16 :: z17 :: z18 :: z19 :: z20 :: undef :: undef :: undef :: undef :: undef :: undef :: undef :: undef :: undef :: undef :: undef :: undef :: undef :: undef :: undef :: undef :: undef :: undef :: undef :: undef :: undef :: undef :: undef :: undef :: undef :: undef :: undef :: undef :: undef :: undef :: undef :: undef :: undef :: undef :: undef :: undef :: undef :: undef :: undef :: undef :: []), defers := [] } _
      subst e19 e20
      rw [e18]
      clear e18
      have hW : Below w.heap.size w wz := B3.out.trans (hB.mono B3.out.size)
      have HC : Hid (∀ j, j < 2 → ∃ T : List UInt8, wz.cell? ⟨b6, j, none⟩ = some (.string ⟨T.toArray⟩) ∧ T.length ≤ 281474976710656) := fun j hj => by
        have : j = 0 ∨ j = 1 := by omega
        rcases this with rfl | rfl
        · exact ⟨T0, by simp [World.cell?, hb6], HT0.out⟩
        · exact ⟨T1, by simp [World.cell?, hb6], HT1.out⟩
      have HW := Lib.hid hW
      have HTZ := Lib.hid (hT.below hW)
      have hlt6 := Own.block_lt hb6
      have HLT := Lib.hid hlt6
      clear hb6 hB hlt6 HT0 HT1 SE1 SE2 F1 A1 L1 PK X1 X0 hex HEX HE1 HE2 HE3 HX4 hE1 hE2 hE3 hX4 HMN hmn G1 G2 W1 h9 hM hm hs A2' hW
      go_wp2_with fail
      go_loopw [70] (fun iv wr => ∃ j : Nat, j ≤ 2 ∧ iv = .int .i64 j ∧ Hid (Below wz.heap.size wz wr)) (fun iv _ => 2 - (intOf iv).toNat)
      case atStart => exact ⟨0, by omega, rfl, Below.refl _ _⟩
      case round =>
        obtain ⟨j, hj, rfl, HBR⟩ := hrel
        by_cases hlt : j < 2
        · obtain ⟨T, hcell, hT⟩ := HC.out j hlt
          rw [← HBR.out.cell (p := ⟨b6, _, none⟩) HLT.out] at hcell
          have i1 : (j : Int) < 2 := by omega
          have i2 : IntKind.i64.wrap ((j : Int) + 1) = (j : Int) + 1 := wrap_id (by omega) (by omega)
          rcases takeS9_cases2 T with ⟨e, he, hne⟩ | ⟨o, ho, hro⟩
          · have TK := Lib.hid (fun (u : World) => take_err9 he u hT)
            clear he hT HC
            generalize (⟨T.toArray⟩ : ByteArray) = q at *
            go_wp2_with (go_at_call 41; (with_reducible refine (TK.out _).mono ?_); rintro e5 w5 ⟨rfl, hb5⟩; have B5 := Lib.hid (below_box (below_next HBR.out hb5) (.cells #[.int .i64 0, .int .i64 0, .string ⟨#[]⟩, .int .i64 0, .int .i64 0, .bool false, .int .i64 0, .int .i64 0, .bool false, .int .i64 0] 53)); obtain ⟨y0, y1, y2, y3, y4, y5, y6, y7, y8, y9⟩ := ten_of (heap_alloc_new w5 (.cells #[.int .i64 0, .int .i64 0, .string ⟨#[]⟩, .int .i64 0, .int .i64 0, .bool false, .int .i64 0, .int .i64 0, .bool false, .int .i64 0] 53)); clear hb5)
            go_roundw
            case rel => exact ⟨j + 1, by omega, by go_num, B5⟩
            case measure => simp [intOf]; omega
          · have TK := Lib.hid (fun (u : World) => take_ok9 ho u hT)
            have TL := Lib.hid (fun (u : World) => take9_lay hro u)
            have L2 := Lib.hid (fun (w' : World) (hb : Below wz.heap.size wz w') => lay9_yes hro w' (HTZ.out.below hb))
            have RT := Lib.hid (fun (w' : World) => right9_any o w' (ok_right name_ok hro))
            rw [hro] at RT
            generalize layS9 o = TT at *
            clear ho hT HC hro
            obtain ⟨hd5, bo5, nm5, od5, up5, lv5, nd5, sq5, dr5, ac5⟩ := o
            unfold sV sC at TK TL L2 RT
            simp only at TK TL L2 RT
            generalize (⟨T.toArray⟩ : ByteArray) = q at *
            generalize (⟨TT.toArray⟩ : ByteArray) = q2 at *
            go_wp2_with (first
              | (go_at_call 41; (with_reducible refine (TK.out _).mono ?_); rintro e5 w5 ⟨rfl, hb5⟩; have B5 := Lib.hid (below_box (below_next HBR.out hb5) (.cells #[.int .i64 hd5, .int .i64 bo5, .string ⟨nm5.toArray⟩, .int .i64 od5, .int .i64 up5, .bool lv5, .int .i64 nd5, .int .i64 sq5, .bool dr5, .int .i64 ac5] 53)); have X5 := Lib.hid (BX9.new w5 #[.int .i64 hd5, .int .i64 bo5, .string ⟨nm5.toArray⟩, .int .i64 od5, .int .i64 up5, .bool lv5, .int .i64 nd5, .int .i64 sq5, .bool dr5, .int .i64 ac5]); obtain ⟨y0, y1, y2, y3, y4, y5, y6, y7, y8, y9⟩ := ten_of X5.out.blk; clear hb5)
              | (go_at_call 34; (with_reducible refine (L2.out _ B5.out).mono ?_); rintro e6 w6 ⟨rfl, hb6⟩; have X6 := Lib.hid (X5.out.below hb6); have B6 := Lib.hid (below_next B5.out hb6); clear hb6 y0 y1 y2 y3 y4 y5 y6 y7 y8 y9)
              | (go_at_call 41; (with_reducible refine (TL.out _).mono ?_); rintro e7 w7 ⟨rfl, hb7⟩; have P7 := Lib.hid (BX9.new w7 #[.int .i64 hd5, .int .i64 bo5, .string ⟨nm5.toArray⟩, .int .i64 od5, .int .i64 up5, .bool lv5, .int .i64 nd5, .int .i64 sq5, .bool dr5, .int .i64 ac5]); have X7 := Lib.hid ((X6.out.below hb7).box (.cells #[.int .i64 hd5, .int .i64 bo5, .string ⟨nm5.toArray⟩, .int .i64 od5, .int .i64 up5, .bool lv5, .int .i64 nd5, .int .i64 sq5, .bool dr5, .int .i64 ac5] 53)); have B7 := Lib.hid (below_box (below_next B6.out hb7) (.cells #[.int .i64 hd5, .int .i64 bo5, .string ⟨nm5.toArray⟩, .int .i64 od5, .int .i64 up5, .bool lv5, .int .i64 nd5, .int .i64 sq5, .bool dr5, .int .i64 ac5] 53)); obtain ⟨g0, g1, g2, g3, g4, g5, g6, g7, g8, g9⟩ := ten_of X7.out.blk; clear hb7)
              | (go_at_call 36; (with_reducible refine (RT.out _).mono ?_); rintro e8 w8 ⟨rfl, hb8⟩; have P8 := Lib.hid (P7.out.below hb8); have X8 := Lib.hid (X7.out.below hb8); have B8 := Lib.hid (below_next B7.out hb8); clear hb8 g0 g1 g2 g3 g4 g5 g6 g7 g8 g9; obtain ⟨u0, u1, u2, u3, u4, u5, u6, u7, u8, u9⟩ := ten_of X8.out.blk; obtain ⟨v0, v1, v2, v3, v4, v5, v6, v7, v8, v9⟩ := ten_of P8.out.blk))
            go_roundw
            case rel => exact ⟨j + 1, by omega, by go_num, B8⟩
            case measure => simp [intOf]; omega
        · have hj2 : j = 2 := by omega
          subst hj2
          go_wp2_with fail
          go_ret
          exact ⟨rfl, HW.out.trans (HBR.out.mono HW.out.size)⟩
end Go.Proofs.YtcpggmdiojaalaaGreatDoor.Sta

/- The law StateTaken (what is taken is right, and, laid, it is taken as the same) answers true for all texts, raw states and numbers; taken that Go's own tables (those of strconv, math/bits and unicode/utf8) hold what the program's text lays, which the card ties. -/
set_option linter.unusedSimpArgs false
set_option linter.unusedVariables false
namespace Go.Proofs.YtcpggmdiojaalaaGreatDoor.stateTaken
open Go.ChangeShapes Go.WideShapes Go.ChangeAt Go.RowKit Go.Proofs.YtcpggmdiojaalaaGreatDoor.Sta Go.Proofs.YtcpggmdiojaalaaGreatDoor.Od
open Go.Proofs.YtcpggmdiojaalaaGreatDoor.Js (laid5 laid_met laidWorld tab_of_laid)
open Go.ChangeMaps (open_string shut_string)

set_option maxRecDepth 100000 in
theorem contract (H : Type) (enc : TypeId × Value → H) (W : World) (base : Nat) (args : Array Value) (ds gs : List (DataW H)) (before : List MemPlace)
    (hval : ∀ (j : Nat) t v, Tryz.f7.params[j]? = some t → args[j]? = some v → Value.okWide Tryz.prog W .any base t v)
    (hW : DataW.Whole enc Tryz.prog Tryz.f7.params.toList Rows.stateTakenSpec.vars false W args.toList ds gs before) (hz : (DataW.weightsEach Tryz.prog (Tryz.f7.params.toList ++ (OpenSpec.ofChange Rows.stateTakenSpec).bare.plain.varTypes Tryz.prog) (ds ++ gs)).all (· ≤ reachBytes) = true) (hL : laidMetH Tryz.prog laid5 W) :
    Calls Tryz.prog 7 args W fun e W' => ∃ v, e = .returned v ∧ Rows.stateTakenSpec.post enc Tryz.prog Tryz.f7 false true false false W args v W' := by
  have hT := tab_of_laid hL
  clear hL
  have hW' := hW
  have hlt := hW.lt
  obtain ⟨p, q, hA0, hV, rfl, hfz, hnd⟩ := hW
  have hA : DataW.TrodAll enc Tryz.prog W 0 (fun _ => true) true Tryz.f7.params.toList args.toList ds p := hA0
  rw [Tryz.params7] at hA hval
  obtain ⟨v0, vs0, d0, ds0, p0, q0, hargs, rfl, rfl, h0, r0⟩ := trodAll_cons hA
  obtain ⟨v1, vs1, d1, ds1, p1, q1, rfl, rfl, rfl, h1, r1⟩ := trodAll_cons r0
  obtain ⟨v2, vs2, d2, ds2, p2, q2, rfl, rfl, rfl, h2, r2⟩ := trodAll_cons r1
  obtain ⟨v3, vs3, d3, ds3, p3, q3, rfl, rfl, rfl, h3, r3⟩ := trodAll_cons r2
  obtain ⟨rfl, rfl, rfl⟩ := trodAll_nil r3
  obtain rfl : args = #[v0, v1, v2, v3] := Array.ext' hargs
  obtain ⟨rfl, rfl⟩ := trodVars_none hV
  have k0 := h0
  have k1 := h1
  have k2 := h2
  have k3 := h3
  have wt0 : Wt 9 d0 := wt_of hz (j := 0) (by rw [Tryz.params7]; rfl) rfl
  obtain ⟨s0, rfl, rfl, rfl, hs0⟩ := open_string Tryz.underlying9 (hval 0 9 v0 rfl rfl) h0
  have l0 := wt_string wt0
  clear hs0
  obtain ⟨t0, rfl⟩ : ∃ t : List UInt8, s0 = ⟨t.toArray⟩ := ⟨s0.data.toList, by cases s0; simp⟩
  have wt1 : Wt 53 d1 := wt_of hz (j := 1) (by rw [Tryz.params7]; rfl) rfl
  obtain ⟨z1, rfl, hz1⟩ := open_state (hval 1 53 v1 rfl rfl) h1 wt1
  obtain ⟨x2, rfl, rfl, rfl, wx2⟩ := open_int Tryz.underlying3 (hval 2 3 v2 rfl rfl) h2
  obtain ⟨b2, c2⟩ := bounds_i64 wx2
  have wt3 : Wt 9 d3 := wt_of hz (j := 3) (by rw [Tryz.params7]; rfl) rfl
  obtain ⟨s3, rfl, rfl, rfl, hs3⟩ := open_string Tryz.underlying9 (hval 3 9 v3 rfl rfl) h3
  have l3 := wt_string wt3
  clear hs3
  obtain ⟨t3, rfl⟩ : ∃ t : List UInt8, s3 = ⟨t.toArray⟩ := ⟨s3.data.toList, by cases s3; simp⟩
  clear hA0
  simp only [List.append_nil] at hW'
  refine (taken9_walk t0 z1 x2 t3 W hT (by simp at l0; omega) hz1 b2 c2 (by simp at l3; omega)).mono fun e W' ⟨he, hg⟩ => ?_
  subst he
  exact ⟨_, rfl, _, _, _, [], _, [], hW', trodAll_cons_mk (shut_bool Tryz.underlying4 _) trodAll_mk0,
    (trodAll_cons_mk (Below.trod laidOut (by kernel_rfl) (of_decide_eq_true (by kernel_rfl)) k0 hg (fun x hx => by first | (exact absurd hx (by simp)) | exact hlt x (by simp [hx]))) (trodAll_cons_mk (Below.trod laidOut (by kernel_rfl) (of_decide_eq_true (by kernel_rfl)) k1 hg (fun x hx => by first | (exact absurd hx (by simp)) | exact hlt x (by simp [hx]))) (trodAll_cons_mk (Below.trod laidOut (by kernel_rfl) (of_decide_eq_true (by kernel_rfl)) k2 hg (fun x hx => by first | (exact absurd hx (by simp)) | exact hlt x (by simp [hx]))) (trodAll_cons_mk (Below.trod laidOut (by kernel_rfl) (of_decide_eq_true (by kernel_rfl)) k3 hg (fun x hx => by first | (exact absurd hx (by simp)) | exact hlt x (by simp [hx]))) trodAll_mk0)))), rfl,
    hg.frame _, fun h => by cases h⟩

theorem reads (os : Os) {H : Type} (enc : TypeId × Value → H) : ∃ places, DataW.whole enc Tryz.prog ((laidWorld os).forCall (fun _ _ => 0) ⟨#[], #[.string ⟨#[]⟩, .agg #[.int .i64 0, .int .i64 0, .string ⟨#[]⟩, .int .i64 0, .int .i64 0, .bool false, .int .i64 0, .int .i64 0, .bool false, .int .i64 0], .int .i64 0, .string ⟨#[]⟩], []⟩).memory Tryz.f7.params.toList Rows.stateTakenSpec.vars false (#[Value.string ⟨#[]⟩, Value.agg #[.int .i64 0, .int .i64 0, .string ⟨#[]⟩, .int .i64 0, .int .i64 0, .bool false, .int .i64 0, .int .i64 0, .bool false, .int .i64 0], Value.int .i64 0, Value.string ⟨#[]⟩] : Array Value).toList 8 = some ([.lit (.string []), .agg [.lit (.int .i64 0), .lit (.int .i64 0), .lit (.string []), .lit (.int .i64 0), .lit (.int .i64 0), .lit (.bool false), .lit (.int .i64 0), .lit (.int .i64 0), .lit (.bool false), .lit (.int .i64 0)], .lit (.int .i64 0), .lit (.string [])], [], places) :=
  ⟨[], by kernel_rfl⟩

set_option maxRecDepth 100000 in
theorem lifted (os : Os) (started : os.Started) (H : Type) (enc : TypeId × Value → H) (F : Stop.Interp) :
    ReturnsInHanded {} Tryz.checked os 7 .any ((OpenSpec.ofChange Rows.stateTakenSpec).preRow enc Tryz.prog Tryz.f7 Rows.stateTakenRow.domain false Rows.stateTakenRow.laid) (((OpenSpec.ofChange Rows.stateTakenSpec).at F).post enc Tryz.prog Tryz.f7 false true false false) := by
  obtain ⟨places, hx⟩ := reads os enc
  refine returnsInHanded_of_row (C := Tryz.checked) (s := OpenSpec.ofChange Rows.stateTakenSpec) own started (by kernel_rfl) Tryz.func7
    (witness_row_at (enc := enc) (C := Tryz.checked) false (laidWorld os) #[.string ⟨#[]⟩, .agg #[.int .i64 0, .int .i64 0, .string ⟨#[]⟩, .int .i64 0, .int .i64 0, .bool false, .int .i64 0, .int .i64 0, .bool false, .int .i64 0], .int .i64 0, .string ⟨#[]⟩] rfl (by kernel_rfl) (by kernel_rfl) (by kernel_rfl)
      (OpenSpec.preRow_of_cond 8 hx (by kernel_rfl) (fun k hk => by cases hk) (by kernel_rfl) (laid_met os _))) ?_
  intro W base args ds gs before hval hW _ _ hz hL _ _
  exact contract H enc W base args ds gs before hval hW hz hL

theorem said : Rows.StateTakenSaid :=
  OpenClaim.holds_of_cond 7 Tryz.f7 rfl rfl rfl rfl rfl rfl rfl ⟨rfl, rfl, rfl, rfl, rfl⟩ rfl rfl rfl rfl rfl (by kernel_rfl) Tryz.func7 (by kernel_rfl)
    (of_decide_eq_true (by kernel_rfl)) (by unfold Func.isWrapper; first | (rw [if_pos (by decide +kernel)]; kernel_rfl) | (rw [if_neg (by decide +kernel)]; exact ⟨rfl, rfl⟩))
    (fun os started H enc _ F => by rw [OpenClaim.pre_eq_preRow]; exact lifted os started H enc F)

theorem plain (f : FuncId) (fn : Func) (hf : Tryz.pinned.checked.prog.funcNamed Rows.stateTakenRow.func = some f) (hfn : Tryz.pinned.checked.prog.funcs[f]? = some fn) :
    false = Tryz.pinned.checked.prog.looks [] ∧ ∀ (j : Nat) t, fn.params[j]? = some t → Tryz.pinned.checked.prog.wantsStandIn t = false := by
  obtain rfl : f = 7 := Option.some.inj ((show Tryz.prog.funcNamed Rows.stateTakenRow.func = some 7 by kernel_rfl).symm.trans hf) |>.symm
  obtain rfl : fn = Tryz.f7 := (Option.some.inj (Tryz.func7.symm.trans hfn)).symm
  refine ⟨by kernel_rfl, fun j t ht => ?_⟩
  rw [Tryz.params7] at ht
  have hm := Array.mem_of_getElem? ht
  have hh : t = 53 ∨ t = 3 ∨ t = 9 := by simp at hm; first | (rcases hm with h | h | h <;> simp [h]) | (rcases hm with h | h | h | h <;> simp [h])
  rcases hh with rfl | rfl | rfl
  · exact (show Tryz.prog.wantsStandIn 53 = false by kernel_rfl)
  · exact (show Tryz.prog.wantsStandIn 3 = false by kernel_rfl)
  · exact (show Tryz.prog.wantsStandIn 9 = false by kernel_rfl)

theorem card : Rows.StateTakenCardSaid :=
  Claim7.holds_tied_plain_at .later [] _ _ _ _ said (fun _ h => by cases h) (by kernel_rfl) (fun _ h => by cases h) stateTaken_row_tie rfl ⟨rfl, rfl⟩ (by kernel_rfl) rfl plain (by kernel_rfl)
end Go.Proofs.YtcpggmdiojaalaaGreatDoor.stateTaken
