/- The law StateNewer (of two states one is newer, unless both have one Boot and Header) answers true for all inputs; taken that Go's own tables (those of strconv, math/bits and unicode/utf8) hold what the program's text lays, which the card ties. -/
import Derived.Test.YtcpggmdiojaalaaGreatDoorMAj
import Derived.Test.YtcpggmdiojaalaaGreatDoorAF
import Derived.Test.YtcpggmdiojaalaaGreatDoorMG
/- StateNewer: of two states one is newer, unless both have one Boot and Header. -/
set_option linter.unusedVariables false
set_option linter.unusedSimpArgs false
namespace Go.Proofs.YtcpggmdiojaalaaGreatDoor.Sta
open Go.RowKit Js Lex Od

theorem newer_self (a : S9) : newerB a a = false := by unfold newerB; simp
theorem newer_cases (a b c : S9) : (a.b = b.b ∧ a.h = b.h ∧ newerB a b = false ∧ newerB b a = false) ∨
    (((a.b == b.b) = false ∨ a.b = b.b ∧ (a.h == b.h) = false) ∧ ((newerB a b = false ∧ newerB b a = true) ∨ (newerB a b = true ∧ newerB b a = false ∧ (newerB b c = false ∨ newerB b c = true ∧ newerB a c = true)))) := by
  unfold newerB
  by_cases h1 : a.b = b.b
  · by_cases h2 : a.h = b.h
    · exact .inl ⟨h1, h2, by simp [h1, h2], by simp [h1, h2]⟩
    · refine .inr ⟨.inr ⟨h1, by simpa using h2⟩, ?_⟩
      by_cases h3 : b.h < a.h
      · refine .inr ⟨by simp [h1, h3], by simp [h1]; omega, ?_⟩
        by_cases h4 : c.b < b.b
        · exact .inr ⟨by simp [h4], by rw [h1]; simp [h4]⟩
        · by_cases h5 : b.b = c.b
          · by_cases h6 : c.h < b.h
            · exact .inr ⟨by simp [h5, h6], by rw [h1]; simp [h5]; omega⟩
            · exact .inl (by simp [h5]; omega)
          · exact .inl (by simp [h5]; omega)
      · exact .inl ⟨by simp [h1]; omega, by simp [h1]; omega⟩
  · refine .inr ⟨.inl (by simpa using h1), ?_⟩
    by_cases h3 : b.b < a.b
    · refine .inr ⟨by simp [h3], by simp; omega, ?_⟩
      by_cases h4 : c.b < b.b
      · exact .inr ⟨by simp [h4], by simp; omega⟩
      · by_cases h5 : b.b = c.b
        · by_cases h6 : c.h < b.h
          · exact .inr ⟨by simp [h5, h6], by simp; omega⟩
          · exact .inl (by simp [h5]; omega)
        · exact .inl (by simp [h5]; omega)
    · exact .inl ⟨by simp; omega, by simp; omega⟩
set_option maxHeartbeats 8000000 in
set_option maxRecDepth 100000 in
theorem newer9_walk (x x' x'' : S9) (w : World) (hT : Dec.Tab w) (hx : x.ok) (hx' : x'.ok) (hx'' : x''.ok) : Calls Tryz.prog 9 #[sV x, sV x', sV x''] w (Ret (.bool true) w) := by
  have A1 := Lib.hid (fun (w' : World) (hb : Below w.heap.size w w') => awake9_any w' (hT.below hb))
  have N1 := Lib.hid (fun (w' : World) => newer9_any x x' w')
  have N2 := Lib.hid (fun (w' : World) => newer9_any x' x w')
  have N3 := Lib.hid (fun (w' : World) => newer9_any x x w')
  have N4 := Lib.hid (fun (w' : World) => newer9_any x' x'' w')
  have N5 := Lib.hid (fun (w' : World) => newer9_any x x'' w')
  have hc := newer_cases x x' x''
  rw [newer_self] at N3
  generalize newerB x x' = P at *
  generalize newerB x' x = Q at *
  generalize newerB x' x'' = R at *
  generalize newerB x x'' = S at *
  clear hx hx' hx'' hT
  obtain ⟨hd, bo, nm, od, up, lv, nd, sq, dr, ac⟩ := x
  obtain ⟨hd1, bo1, nm1, od1, up1, lv1, nd1, sq1, dr1, ac1⟩ := x'
  obtain ⟨hd2, bo2, nm2, od2, up2, lv2, nd2, sq2, dr2, ac2⟩ := x''
  unfold sV sC at *
  simp only at N1 N2 N3 N4 N5 hc
  have B0 := Lib.hid ((belowTwo w (.cells #[.int .i64 hd, .int .i64 bo, .string ⟨nm.toArray⟩, .int .i64 od, .int .i64 up, .bool lv, .int .i64 nd, .int .i64 sq, .bool dr, .int .i64 ac] 53) (.cells #[.int .i64 hd1, .int .i64 bo1, .string ⟨nm1.toArray⟩, .int .i64 od1, .int .i64 up1, .bool lv1, .int .i64 nd1, .int .i64 sq1, .bool dr1, .int .i64 ac1] 53)).alloc (by simp; omega) (.cells #[.int .i64 hd2, .int .i64 bo2, .string ⟨nm2.toArray⟩, .int .i64 od2, .int .i64 up2, .bool lv2, .int .i64 nd2, .int .i64 sq2, .bool dr2, .int .i64 ac2] 53))
  have X0 : Hid (BX9 #[.int .i64 hd, .int .i64 bo, .string ⟨nm.toArray⟩, .int .i64 od, .int .i64 up, .bool lv, .int .i64 nd, .int .i64 sq, .bool dr, .int .i64 ac] w.heap.size (((w.alloc (.cells #[.int .i64 hd, .int .i64 bo, .string ⟨nm.toArray⟩, .int .i64 od, .int .i64 up, .bool lv, .int .i64 nd, .int .i64 sq, .bool dr, .int .i64 ac] 53)).alloc (.cells #[.int .i64 hd1, .int .i64 bo1, .string ⟨nm1.toArray⟩, .int .i64 od1, .int .i64 up1, .bool lv1, .int .i64 nd1, .int .i64 sq1, .bool dr1, .int .i64 ac1] 53)).alloc (.cells #[.int .i64 hd2, .int .i64 bo2, .string ⟨nm2.toArray⟩, .int .i64 od2, .int .i64 up2, .bool lv2, .int .i64 nd2, .int .i64 sq2, .bool dr2, .int .i64 ac2] 53))) := ((BX9.new w _).box _).box _
  have Y0 : Hid (BX9 #[.int .i64 hd1, .int .i64 bo1, .string ⟨nm1.toArray⟩, .int .i64 od1, .int .i64 up1, .bool lv1, .int .i64 nd1, .int .i64 sq1, .bool dr1, .int .i64 ac1] (w.heap.size + 1) (((w.alloc (.cells #[.int .i64 hd, .int .i64 bo, .string ⟨nm.toArray⟩, .int .i64 od, .int .i64 up, .bool lv, .int .i64 nd, .int .i64 sq, .bool dr, .int .i64 ac] 53)).alloc (.cells #[.int .i64 hd1, .int .i64 bo1, .string ⟨nm1.toArray⟩, .int .i64 od1, .int .i64 up1, .bool lv1, .int .i64 nd1, .int .i64 sq1, .bool dr1, .int .i64 ac1] 53)).alloc (.cells #[.int .i64 hd2, .int .i64 bo2, .string ⟨nm2.toArray⟩, .int .i64 od2, .int .i64 up2, .bool lv2, .int .i64 nd2, .int .i64 sq2, .bool dr2, .int .i64 ac2] 53))) := (⟨two_new _ _ _⟩ : BX9 _ _ _).box _
  have Z0 : Hid (BX9 #[.int .i64 hd2, .int .i64 bo2, .string ⟨nm2.toArray⟩, .int .i64 od2, .int .i64 up2, .bool lv2, .int .i64 nd2, .int .i64 sq2, .bool dr2, .int .i64 ac2] (w.heap.size + 1 + 1) (((w.alloc (.cells #[.int .i64 hd, .int .i64 bo, .string ⟨nm.toArray⟩, .int .i64 od, .int .i64 up, .bool lv, .int .i64 nd, .int .i64 sq, .bool dr, .int .i64 ac] 53)).alloc (.cells #[.int .i64 hd1, .int .i64 bo1, .string ⟨nm1.toArray⟩, .int .i64 od1, .int .i64 up1, .bool lv1, .int .i64 nd1, .int .i64 sq1, .bool dr1, .int .i64 ac1] 53)).alloc (.cells #[.int .i64 hd2, .int .i64 bo2, .string ⟨nm2.toArray⟩, .int .i64 od2, .int .i64 up2, .bool lv2, .int .i64 nd2, .int .i64 sq2, .bool dr2, .int .i64 ac2] 53))) := ⟨(three_allocs w _ _ _).2.2.1⟩
  rcases hc with ⟨h1, h2, rfl, rfl⟩ | ⟨h1 | ⟨h0, h1⟩, ⟨rfl, rfl⟩ | ⟨rfl, rfl, rfl | ⟨rfl, rfl⟩⟩⟩
  · subst h1 h2
    go_enter Tryz.func9, Tryz.ntmps9
    go_wp2_with (first
      | (go_at_call 32; (with_reducible refine (A1.out _ B0.out).mono ?_); rintro e1 w1 ⟨rfl, hb1⟩; have B1 := Lib.hid (below_next B0.out hb1); have X1 := Lib.hid (X0.out.below hb1); have Y1 := Lib.hid (Y0.out.below hb1); have Z1 := Lib.hid (Z0.out.below hb1); clear hb1; obtain ⟨x0, x1, x2, x3, x4, x5, x6, x7, x8, x9⟩ := ten_of X1.out.blk; obtain ⟨y0, y1, y2, y3, y4, y5, y6, y7, y8, y9⟩ := ten_of Y1.out.blk; obtain ⟨z0, z1, z2, z3, z4, z5, z6, z7, z8, z9⟩ := ten_of Z1.out.blk)
      | (go_at_call 38; (with_reducible refine (N1.out _).mono ?_); rintro e2 w2 ⟨rfl, hb2⟩; have B2 := Lib.hid (below_next B1.out hb2); have X2 := Lib.hid (X1.out.below hb2); have Y2 := Lib.hid (Y1.out.below hb2); have Z2 := Lib.hid (Z1.out.below hb2); clear hb2 x0 x1 x2 x3 x4 x5 x6 x7 x8 x9 y0 y1 y2 y3 y4 y5 y6 y7 y8 y9 z0 z1 z2 z3 z4 z5 z6 z7 z8 z9; obtain ⟨x0, x1, x2, x3, x4, x5, x6, x7, x8, x9⟩ := ten_of X2.out.blk; obtain ⟨y0, y1, y2, y3, y4, y5, y6, y7, y8, y9⟩ := ten_of Y2.out.blk; obtain ⟨z0, z1, z2, z3, z4, z5, z6, z7, z8, z9⟩ := ten_of Z2.out.blk)
      | (go_at_call 38; (with_reducible refine (N2.out _).mono ?_); rintro e3 w3 ⟨rfl, hb3⟩; have B3 := Lib.hid (below_next B2.out hb3); have X3 := Lib.hid (X2.out.below hb3); have Y3 := Lib.hid (Y2.out.below hb3); have Z3 := Lib.hid (Z2.out.below hb3); clear hb3 x0 x1 x2 x3 x4 x5 x6 x7 x8 x9 y0 y1 y2 y3 y4 y5 y6 y7 y8 y9 z0 z1 z2 z3 z4 z5 z6 z7 z8 z9; obtain ⟨x0, x1, x2, x3, x4, x5, x6, x7, x8, x9⟩ := ten_of X3.out.blk; obtain ⟨y0, y1, y2, y3, y4, y5, y6, y7, y8, y9⟩ := ten_of Y3.out.blk; obtain ⟨z0, z1, z2, z3, z4, z5, z6, z7, z8, z9⟩ := ten_of Z3.out.blk)
      | (go_at_call 38; (with_reducible refine (N3.out _).mono ?_); rintro e4 w4 ⟨rfl, hb4⟩; have B4 := Lib.hid (below_next B3.out hb4); have X4 := Lib.hid (X3.out.below hb4); have Y4 := Lib.hid (Y3.out.below hb4); have Z4 := Lib.hid (Z3.out.below hb4); clear hb4 x0 x1 x2 x3 x4 x5 x6 x7 x8 x9 y0 y1 y2 y3 y4 y5 y6 y7 y8 y9 z0 z1 z2 z3 z4 z5 z6 z7 z8 z9; obtain ⟨x0, x1, x2, x3, x4, x5, x6, x7, x8, x9⟩ := ten_of X4.out.blk; obtain ⟨y0, y1, y2, y3, y4, y5, y6, y7, y8, y9⟩ := ten_of Y4.out.blk; obtain ⟨z0, z1, z2, z3, z4, z5, z6, z7, z8, z9⟩ := ten_of Z4.out.blk)
      | (go_at_call 38; (with_reducible refine (N4.out _).mono ?_); rintro e5 w5 ⟨rfl, hb5⟩; have B5 := Lib.hid (below_next B4.out hb5); have X5 := Lib.hid (X4.out.below hb5); have Y5 := Lib.hid (Y4.out.below hb5); have Z5 := Lib.hid (Z4.out.below hb5); clear hb5 x0 x1 x2 x3 x4 x5 x6 x7 x8 x9 y0 y1 y2 y3 y4 y5 y6 y7 y8 y9 z0 z1 z2 z3 z4 z5 z6 z7 z8 z9; obtain ⟨x0, x1, x2, x3, x4, x5, x6, x7, x8, x9⟩ := ten_of X5.out.blk; obtain ⟨y0, y1, y2, y3, y4, y5, y6, y7, y8, y9⟩ := ten_of Y5.out.blk; obtain ⟨z0, z1, z2, z3, z4, z5, z6, z7, z8, z9⟩ := ten_of Z5.out.blk)
      | (go_at_call 38; (with_reducible refine (N5.out _).mono ?_); rintro e6 w6 ⟨rfl, hb6⟩; have B6 := Lib.hid (below_next B5.out hb6); have X6 := Lib.hid (X5.out.below hb6); have Y6 := Lib.hid (Y5.out.below hb6); have Z6 := Lib.hid (Z5.out.below hb6); clear hb6 x0 x1 x2 x3 x4 x5 x6 x7 x8 x9 y0 y1 y2 y3 y4 y5 y6 y7 y8 y9 z0 z1 z2 z3 z4 z5 z6 z7 z8 z9; obtain ⟨x0, x1, x2, x3, x4, x5, x6, x7, x8, x9⟩ := ten_of X6.out.blk; obtain ⟨y0, y1, y2, y3, y4, y5, y6, y7, y8, y9⟩ := ten_of Y6.out.blk; obtain ⟨z0, z1, z2, z3, z4, z5, z6, z7, z8, z9⟩ := ten_of Z6.out.blk))
    go_ret
    exact ⟨rfl, by first | exact B6.out | exact B5.out | exact B4.out⟩
  · go_enter Tryz.func9, Tryz.ntmps9
    go_wp2_with (first
      | (go_at_call 32; (with_reducible refine (A1.out _ B0.out).mono ?_); rintro e1 w1 ⟨rfl, hb1⟩; have B1 := Lib.hid (below_next B0.out hb1); have X1 := Lib.hid (X0.out.below hb1); have Y1 := Lib.hid (Y0.out.below hb1); have Z1 := Lib.hid (Z0.out.below hb1); clear hb1; obtain ⟨x0, x1, x2, x3, x4, x5, x6, x7, x8, x9⟩ := ten_of X1.out.blk; obtain ⟨y0, y1, y2, y3, y4, y5, y6, y7, y8, y9⟩ := ten_of Y1.out.blk; obtain ⟨z0, z1, z2, z3, z4, z5, z6, z7, z8, z9⟩ := ten_of Z1.out.blk)
      | (go_at_call 38; (with_reducible refine (N1.out _).mono ?_); rintro e2 w2 ⟨rfl, hb2⟩; have B2 := Lib.hid (below_next B1.out hb2); have X2 := Lib.hid (X1.out.below hb2); have Y2 := Lib.hid (Y1.out.below hb2); have Z2 := Lib.hid (Z1.out.below hb2); clear hb2 x0 x1 x2 x3 x4 x5 x6 x7 x8 x9 y0 y1 y2 y3 y4 y5 y6 y7 y8 y9 z0 z1 z2 z3 z4 z5 z6 z7 z8 z9; obtain ⟨x0, x1, x2, x3, x4, x5, x6, x7, x8, x9⟩ := ten_of X2.out.blk; obtain ⟨y0, y1, y2, y3, y4, y5, y6, y7, y8, y9⟩ := ten_of Y2.out.blk; obtain ⟨z0, z1, z2, z3, z4, z5, z6, z7, z8, z9⟩ := ten_of Z2.out.blk)
      | (go_at_call 38; (with_reducible refine (N2.out _).mono ?_); rintro e3 w3 ⟨rfl, hb3⟩; have B3 := Lib.hid (below_next B2.out hb3); have X3 := Lib.hid (X2.out.below hb3); have Y3 := Lib.hid (Y2.out.below hb3); have Z3 := Lib.hid (Z2.out.below hb3); clear hb3 x0 x1 x2 x3 x4 x5 x6 x7 x8 x9 y0 y1 y2 y3 y4 y5 y6 y7 y8 y9 z0 z1 z2 z3 z4 z5 z6 z7 z8 z9; obtain ⟨x0, x1, x2, x3, x4, x5, x6, x7, x8, x9⟩ := ten_of X3.out.blk; obtain ⟨y0, y1, y2, y3, y4, y5, y6, y7, y8, y9⟩ := ten_of Y3.out.blk; obtain ⟨z0, z1, z2, z3, z4, z5, z6, z7, z8, z9⟩ := ten_of Z3.out.blk)
      | (go_at_call 38; (with_reducible refine (N3.out _).mono ?_); rintro e4 w4 ⟨rfl, hb4⟩; have B4 := Lib.hid (below_next B3.out hb4); have X4 := Lib.hid (X3.out.below hb4); have Y4 := Lib.hid (Y3.out.below hb4); have Z4 := Lib.hid (Z3.out.below hb4); clear hb4 x0 x1 x2 x3 x4 x5 x6 x7 x8 x9 y0 y1 y2 y3 y4 y5 y6 y7 y8 y9 z0 z1 z2 z3 z4 z5 z6 z7 z8 z9; obtain ⟨x0, x1, x2, x3, x4, x5, x6, x7, x8, x9⟩ := ten_of X4.out.blk; obtain ⟨y0, y1, y2, y3, y4, y5, y6, y7, y8, y9⟩ := ten_of Y4.out.blk; obtain ⟨z0, z1, z2, z3, z4, z5, z6, z7, z8, z9⟩ := ten_of Z4.out.blk)
      | (go_at_call 38; (with_reducible refine (N4.out _).mono ?_); rintro e5 w5 ⟨rfl, hb5⟩; have B5 := Lib.hid (below_next B4.out hb5); have X5 := Lib.hid (X4.out.below hb5); have Y5 := Lib.hid (Y4.out.below hb5); have Z5 := Lib.hid (Z4.out.below hb5); clear hb5 x0 x1 x2 x3 x4 x5 x6 x7 x8 x9 y0 y1 y2 y3 y4 y5 y6 y7 y8 y9 z0 z1 z2 z3 z4 z5 z6 z7 z8 z9; obtain ⟨x0, x1, x2, x3, x4, x5, x6, x7, x8, x9⟩ := ten_of X5.out.blk; obtain ⟨y0, y1, y2, y3, y4, y5, y6, y7, y8, y9⟩ := ten_of Y5.out.blk; obtain ⟨z0, z1, z2, z3, z4, z5, z6, z7, z8, z9⟩ := ten_of Z5.out.blk)
      | (go_at_call 38; (with_reducible refine (N5.out _).mono ?_); rintro e6 w6 ⟨rfl, hb6⟩; have B6 := Lib.hid (below_next B5.out hb6); have X6 := Lib.hid (X5.out.below hb6); have Y6 := Lib.hid (Y5.out.below hb6); have Z6 := Lib.hid (Z5.out.below hb6); clear hb6 x0 x1 x2 x3 x4 x5 x6 x7 x8 x9 y0 y1 y2 y3 y4 y5 y6 y7 y8 y9 z0 z1 z2 z3 z4 z5 z6 z7 z8 z9; obtain ⟨x0, x1, x2, x3, x4, x5, x6, x7, x8, x9⟩ := ten_of X6.out.blk; obtain ⟨y0, y1, y2, y3, y4, y5, y6, y7, y8, y9⟩ := ten_of Y6.out.blk; obtain ⟨z0, z1, z2, z3, z4, z5, z6, z7, z8, z9⟩ := ten_of Z6.out.blk))
    go_ret
    exact ⟨rfl, by first | exact B6.out | exact B5.out | exact B4.out⟩
  · go_enter Tryz.func9, Tryz.ntmps9
    go_wp2_with (first
      | (go_at_call 32; (with_reducible refine (A1.out _ B0.out).mono ?_); rintro e1 w1 ⟨rfl, hb1⟩; have B1 := Lib.hid (below_next B0.out hb1); have X1 := Lib.hid (X0.out.below hb1); have Y1 := Lib.hid (Y0.out.below hb1); have Z1 := Lib.hid (Z0.out.below hb1); clear hb1; obtain ⟨x0, x1, x2, x3, x4, x5, x6, x7, x8, x9⟩ := ten_of X1.out.blk; obtain ⟨y0, y1, y2, y3, y4, y5, y6, y7, y8, y9⟩ := ten_of Y1.out.blk; obtain ⟨z0, z1, z2, z3, z4, z5, z6, z7, z8, z9⟩ := ten_of Z1.out.blk)
      | (go_at_call 38; (with_reducible refine (N1.out _).mono ?_); rintro e2 w2 ⟨rfl, hb2⟩; have B2 := Lib.hid (below_next B1.out hb2); have X2 := Lib.hid (X1.out.below hb2); have Y2 := Lib.hid (Y1.out.below hb2); have Z2 := Lib.hid (Z1.out.below hb2); clear hb2 x0 x1 x2 x3 x4 x5 x6 x7 x8 x9 y0 y1 y2 y3 y4 y5 y6 y7 y8 y9 z0 z1 z2 z3 z4 z5 z6 z7 z8 z9; obtain ⟨x0, x1, x2, x3, x4, x5, x6, x7, x8, x9⟩ := ten_of X2.out.blk; obtain ⟨y0, y1, y2, y3, y4, y5, y6, y7, y8, y9⟩ := ten_of Y2.out.blk; obtain ⟨z0, z1, z2, z3, z4, z5, z6, z7, z8, z9⟩ := ten_of Z2.out.blk)
      | (go_at_call 38; (with_reducible refine (N2.out _).mono ?_); rintro e3 w3 ⟨rfl, hb3⟩; have B3 := Lib.hid (below_next B2.out hb3); have X3 := Lib.hid (X2.out.below hb3); have Y3 := Lib.hid (Y2.out.below hb3); have Z3 := Lib.hid (Z2.out.below hb3); clear hb3 x0 x1 x2 x3 x4 x5 x6 x7 x8 x9 y0 y1 y2 y3 y4 y5 y6 y7 y8 y9 z0 z1 z2 z3 z4 z5 z6 z7 z8 z9; obtain ⟨x0, x1, x2, x3, x4, x5, x6, x7, x8, x9⟩ := ten_of X3.out.blk; obtain ⟨y0, y1, y2, y3, y4, y5, y6, y7, y8, y9⟩ := ten_of Y3.out.blk; obtain ⟨z0, z1, z2, z3, z4, z5, z6, z7, z8, z9⟩ := ten_of Z3.out.blk)
      | (go_at_call 38; (with_reducible refine (N3.out _).mono ?_); rintro e4 w4 ⟨rfl, hb4⟩; have B4 := Lib.hid (below_next B3.out hb4); have X4 := Lib.hid (X3.out.below hb4); have Y4 := Lib.hid (Y3.out.below hb4); have Z4 := Lib.hid (Z3.out.below hb4); clear hb4 x0 x1 x2 x3 x4 x5 x6 x7 x8 x9 y0 y1 y2 y3 y4 y5 y6 y7 y8 y9 z0 z1 z2 z3 z4 z5 z6 z7 z8 z9; obtain ⟨x0, x1, x2, x3, x4, x5, x6, x7, x8, x9⟩ := ten_of X4.out.blk; obtain ⟨y0, y1, y2, y3, y4, y5, y6, y7, y8, y9⟩ := ten_of Y4.out.blk; obtain ⟨z0, z1, z2, z3, z4, z5, z6, z7, z8, z9⟩ := ten_of Z4.out.blk)
      | (go_at_call 38; (with_reducible refine (N4.out _).mono ?_); rintro e5 w5 ⟨rfl, hb5⟩; have B5 := Lib.hid (below_next B4.out hb5); have X5 := Lib.hid (X4.out.below hb5); have Y5 := Lib.hid (Y4.out.below hb5); have Z5 := Lib.hid (Z4.out.below hb5); clear hb5 x0 x1 x2 x3 x4 x5 x6 x7 x8 x9 y0 y1 y2 y3 y4 y5 y6 y7 y8 y9 z0 z1 z2 z3 z4 z5 z6 z7 z8 z9; obtain ⟨x0, x1, x2, x3, x4, x5, x6, x7, x8, x9⟩ := ten_of X5.out.blk; obtain ⟨y0, y1, y2, y3, y4, y5, y6, y7, y8, y9⟩ := ten_of Y5.out.blk; obtain ⟨z0, z1, z2, z3, z4, z5, z6, z7, z8, z9⟩ := ten_of Z5.out.blk)
      | (go_at_call 38; (with_reducible refine (N5.out _).mono ?_); rintro e6 w6 ⟨rfl, hb6⟩; have B6 := Lib.hid (below_next B5.out hb6); have X6 := Lib.hid (X5.out.below hb6); have Y6 := Lib.hid (Y5.out.below hb6); have Z6 := Lib.hid (Z5.out.below hb6); clear hb6 x0 x1 x2 x3 x4 x5 x6 x7 x8 x9 y0 y1 y2 y3 y4 y5 y6 y7 y8 y9 z0 z1 z2 z3 z4 z5 z6 z7 z8 z9; obtain ⟨x0, x1, x2, x3, x4, x5, x6, x7, x8, x9⟩ := ten_of X6.out.blk; obtain ⟨y0, y1, y2, y3, y4, y5, y6, y7, y8, y9⟩ := ten_of Y6.out.blk; obtain ⟨z0, z1, z2, z3, z4, z5, z6, z7, z8, z9⟩ := ten_of Z6.out.blk))
    go_ret
    exact ⟨rfl, by first | exact B6.out | exact B5.out | exact B4.out⟩
  · go_enter Tryz.func9, Tryz.ntmps9
    go_wp2_with (first
      | (go_at_call 32; (with_reducible refine (A1.out _ B0.out).mono ?_); rintro e1 w1 ⟨rfl, hb1⟩; have B1 := Lib.hid (below_next B0.out hb1); have X1 := Lib.hid (X0.out.below hb1); have Y1 := Lib.hid (Y0.out.below hb1); have Z1 := Lib.hid (Z0.out.below hb1); clear hb1; obtain ⟨x0, x1, x2, x3, x4, x5, x6, x7, x8, x9⟩ := ten_of X1.out.blk; obtain ⟨y0, y1, y2, y3, y4, y5, y6, y7, y8, y9⟩ := ten_of Y1.out.blk; obtain ⟨z0, z1, z2, z3, z4, z5, z6, z7, z8, z9⟩ := ten_of Z1.out.blk)
      | (go_at_call 38; (with_reducible refine (N1.out _).mono ?_); rintro e2 w2 ⟨rfl, hb2⟩; have B2 := Lib.hid (below_next B1.out hb2); have X2 := Lib.hid (X1.out.below hb2); have Y2 := Lib.hid (Y1.out.below hb2); have Z2 := Lib.hid (Z1.out.below hb2); clear hb2 x0 x1 x2 x3 x4 x5 x6 x7 x8 x9 y0 y1 y2 y3 y4 y5 y6 y7 y8 y9 z0 z1 z2 z3 z4 z5 z6 z7 z8 z9; obtain ⟨x0, x1, x2, x3, x4, x5, x6, x7, x8, x9⟩ := ten_of X2.out.blk; obtain ⟨y0, y1, y2, y3, y4, y5, y6, y7, y8, y9⟩ := ten_of Y2.out.blk; obtain ⟨z0, z1, z2, z3, z4, z5, z6, z7, z8, z9⟩ := ten_of Z2.out.blk)
      | (go_at_call 38; (with_reducible refine (N2.out _).mono ?_); rintro e3 w3 ⟨rfl, hb3⟩; have B3 := Lib.hid (below_next B2.out hb3); have X3 := Lib.hid (X2.out.below hb3); have Y3 := Lib.hid (Y2.out.below hb3); have Z3 := Lib.hid (Z2.out.below hb3); clear hb3 x0 x1 x2 x3 x4 x5 x6 x7 x8 x9 y0 y1 y2 y3 y4 y5 y6 y7 y8 y9 z0 z1 z2 z3 z4 z5 z6 z7 z8 z9; obtain ⟨x0, x1, x2, x3, x4, x5, x6, x7, x8, x9⟩ := ten_of X3.out.blk; obtain ⟨y0, y1, y2, y3, y4, y5, y6, y7, y8, y9⟩ := ten_of Y3.out.blk; obtain ⟨z0, z1, z2, z3, z4, z5, z6, z7, z8, z9⟩ := ten_of Z3.out.blk)
      | (go_at_call 38; (with_reducible refine (N3.out _).mono ?_); rintro e4 w4 ⟨rfl, hb4⟩; have B4 := Lib.hid (below_next B3.out hb4); have X4 := Lib.hid (X3.out.below hb4); have Y4 := Lib.hid (Y3.out.below hb4); have Z4 := Lib.hid (Z3.out.below hb4); clear hb4 x0 x1 x2 x3 x4 x5 x6 x7 x8 x9 y0 y1 y2 y3 y4 y5 y6 y7 y8 y9 z0 z1 z2 z3 z4 z5 z6 z7 z8 z9; obtain ⟨x0, x1, x2, x3, x4, x5, x6, x7, x8, x9⟩ := ten_of X4.out.blk; obtain ⟨y0, y1, y2, y3, y4, y5, y6, y7, y8, y9⟩ := ten_of Y4.out.blk; obtain ⟨z0, z1, z2, z3, z4, z5, z6, z7, z8, z9⟩ := ten_of Z4.out.blk)
      | (go_at_call 38; (with_reducible refine (N4.out _).mono ?_); rintro e5 w5 ⟨rfl, hb5⟩; have B5 := Lib.hid (below_next B4.out hb5); have X5 := Lib.hid (X4.out.below hb5); have Y5 := Lib.hid (Y4.out.below hb5); have Z5 := Lib.hid (Z4.out.below hb5); clear hb5 x0 x1 x2 x3 x4 x5 x6 x7 x8 x9 y0 y1 y2 y3 y4 y5 y6 y7 y8 y9 z0 z1 z2 z3 z4 z5 z6 z7 z8 z9; obtain ⟨x0, x1, x2, x3, x4, x5, x6, x7, x8, x9⟩ := ten_of X5.out.blk; obtain ⟨y0, y1, y2, y3, y4, y5, y6, y7, y8, y9⟩ := ten_of Y5.out.blk; obtain ⟨z0, z1, z2, z3, z4, z5, z6, z7, z8, z9⟩ := ten_of Z5.out.blk)
      | (go_at_call 38; (with_reducible refine (N5.out _).mono ?_); rintro e6 w6 ⟨rfl, hb6⟩; have B6 := Lib.hid (below_next B5.out hb6); have X6 := Lib.hid (X5.out.below hb6); have Y6 := Lib.hid (Y5.out.below hb6); have Z6 := Lib.hid (Z5.out.below hb6); clear hb6 x0 x1 x2 x3 x4 x5 x6 x7 x8 x9 y0 y1 y2 y3 y4 y5 y6 y7 y8 y9 z0 z1 z2 z3 z4 z5 z6 z7 z8 z9; obtain ⟨x0, x1, x2, x3, x4, x5, x6, x7, x8, x9⟩ := ten_of X6.out.blk; obtain ⟨y0, y1, y2, y3, y4, y5, y6, y7, y8, y9⟩ := ten_of Y6.out.blk; obtain ⟨z0, z1, z2, z3, z4, z5, z6, z7, z8, z9⟩ := ten_of Z6.out.blk))
    go_ret
    exact ⟨rfl, by first | exact B6.out | exact B5.out | exact B4.out⟩
  · subst h0
    go_enter Tryz.func9, Tryz.ntmps9
    go_wp2_with (first
      | (go_at_call 32; (with_reducible refine (A1.out _ B0.out).mono ?_); rintro e1 w1 ⟨rfl, hb1⟩; have B1 := Lib.hid (below_next B0.out hb1); have X1 := Lib.hid (X0.out.below hb1); have Y1 := Lib.hid (Y0.out.below hb1); have Z1 := Lib.hid (Z0.out.below hb1); clear hb1; obtain ⟨x0, x1, x2, x3, x4, x5, x6, x7, x8, x9⟩ := ten_of X1.out.blk; obtain ⟨y0, y1, y2, y3, y4, y5, y6, y7, y8, y9⟩ := ten_of Y1.out.blk; obtain ⟨z0, z1, z2, z3, z4, z5, z6, z7, z8, z9⟩ := ten_of Z1.out.blk)
      | (go_at_call 38; (with_reducible refine (N1.out _).mono ?_); rintro e2 w2 ⟨rfl, hb2⟩; have B2 := Lib.hid (below_next B1.out hb2); have X2 := Lib.hid (X1.out.below hb2); have Y2 := Lib.hid (Y1.out.below hb2); have Z2 := Lib.hid (Z1.out.below hb2); clear hb2 x0 x1 x2 x3 x4 x5 x6 x7 x8 x9 y0 y1 y2 y3 y4 y5 y6 y7 y8 y9 z0 z1 z2 z3 z4 z5 z6 z7 z8 z9; obtain ⟨x0, x1, x2, x3, x4, x5, x6, x7, x8, x9⟩ := ten_of X2.out.blk; obtain ⟨y0, y1, y2, y3, y4, y5, y6, y7, y8, y9⟩ := ten_of Y2.out.blk; obtain ⟨z0, z1, z2, z3, z4, z5, z6, z7, z8, z9⟩ := ten_of Z2.out.blk)
      | (go_at_call 38; (with_reducible refine (N2.out _).mono ?_); rintro e3 w3 ⟨rfl, hb3⟩; have B3 := Lib.hid (below_next B2.out hb3); have X3 := Lib.hid (X2.out.below hb3); have Y3 := Lib.hid (Y2.out.below hb3); have Z3 := Lib.hid (Z2.out.below hb3); clear hb3 x0 x1 x2 x3 x4 x5 x6 x7 x8 x9 y0 y1 y2 y3 y4 y5 y6 y7 y8 y9 z0 z1 z2 z3 z4 z5 z6 z7 z8 z9; obtain ⟨x0, x1, x2, x3, x4, x5, x6, x7, x8, x9⟩ := ten_of X3.out.blk; obtain ⟨y0, y1, y2, y3, y4, y5, y6, y7, y8, y9⟩ := ten_of Y3.out.blk; obtain ⟨z0, z1, z2, z3, z4, z5, z6, z7, z8, z9⟩ := ten_of Z3.out.blk)
      | (go_at_call 38; (with_reducible refine (N3.out _).mono ?_); rintro e4 w4 ⟨rfl, hb4⟩; have B4 := Lib.hid (below_next B3.out hb4); have X4 := Lib.hid (X3.out.below hb4); have Y4 := Lib.hid (Y3.out.below hb4); have Z4 := Lib.hid (Z3.out.below hb4); clear hb4 x0 x1 x2 x3 x4 x5 x6 x7 x8 x9 y0 y1 y2 y3 y4 y5 y6 y7 y8 y9 z0 z1 z2 z3 z4 z5 z6 z7 z8 z9; obtain ⟨x0, x1, x2, x3, x4, x5, x6, x7, x8, x9⟩ := ten_of X4.out.blk; obtain ⟨y0, y1, y2, y3, y4, y5, y6, y7, y8, y9⟩ := ten_of Y4.out.blk; obtain ⟨z0, z1, z2, z3, z4, z5, z6, z7, z8, z9⟩ := ten_of Z4.out.blk)
      | (go_at_call 38; (with_reducible refine (N4.out _).mono ?_); rintro e5 w5 ⟨rfl, hb5⟩; have B5 := Lib.hid (below_next B4.out hb5); have X5 := Lib.hid (X4.out.below hb5); have Y5 := Lib.hid (Y4.out.below hb5); have Z5 := Lib.hid (Z4.out.below hb5); clear hb5 x0 x1 x2 x3 x4 x5 x6 x7 x8 x9 y0 y1 y2 y3 y4 y5 y6 y7 y8 y9 z0 z1 z2 z3 z4 z5 z6 z7 z8 z9; obtain ⟨x0, x1, x2, x3, x4, x5, x6, x7, x8, x9⟩ := ten_of X5.out.blk; obtain ⟨y0, y1, y2, y3, y4, y5, y6, y7, y8, y9⟩ := ten_of Y5.out.blk; obtain ⟨z0, z1, z2, z3, z4, z5, z6, z7, z8, z9⟩ := ten_of Z5.out.blk)
      | (go_at_call 38; (with_reducible refine (N5.out _).mono ?_); rintro e6 w6 ⟨rfl, hb6⟩; have B6 := Lib.hid (below_next B5.out hb6); have X6 := Lib.hid (X5.out.below hb6); have Y6 := Lib.hid (Y5.out.below hb6); have Z6 := Lib.hid (Z5.out.below hb6); clear hb6 x0 x1 x2 x3 x4 x5 x6 x7 x8 x9 y0 y1 y2 y3 y4 y5 y6 y7 y8 y9 z0 z1 z2 z3 z4 z5 z6 z7 z8 z9; obtain ⟨x0, x1, x2, x3, x4, x5, x6, x7, x8, x9⟩ := ten_of X6.out.blk; obtain ⟨y0, y1, y2, y3, y4, y5, y6, y7, y8, y9⟩ := ten_of Y6.out.blk; obtain ⟨z0, z1, z2, z3, z4, z5, z6, z7, z8, z9⟩ := ten_of Z6.out.blk))
    go_ret
    exact ⟨rfl, by first | exact B6.out | exact B5.out | exact B4.out⟩
  · subst h0
    go_enter Tryz.func9, Tryz.ntmps9
    go_wp2_with (first
      | (go_at_call 32; (with_reducible refine (A1.out _ B0.out).mono ?_); rintro e1 w1 ⟨rfl, hb1⟩; have B1 := Lib.hid (below_next B0.out hb1); have X1 := Lib.hid (X0.out.below hb1); have Y1 := Lib.hid (Y0.out.below hb1); have Z1 := Lib.hid (Z0.out.below hb1); clear hb1; obtain ⟨x0, x1, x2, x3, x4, x5, x6, x7, x8, x9⟩ := ten_of X1.out.blk; obtain ⟨y0, y1, y2, y3, y4, y5, y6, y7, y8, y9⟩ := ten_of Y1.out.blk; obtain ⟨z0, z1, z2, z3, z4, z5, z6, z7, z8, z9⟩ := ten_of Z1.out.blk)
      | (go_at_call 38; (with_reducible refine (N1.out _).mono ?_); rintro e2 w2 ⟨rfl, hb2⟩; have B2 := Lib.hid (below_next B1.out hb2); have X2 := Lib.hid (X1.out.below hb2); have Y2 := Lib.hid (Y1.out.below hb2); have Z2 := Lib.hid (Z1.out.below hb2); clear hb2 x0 x1 x2 x3 x4 x5 x6 x7 x8 x9 y0 y1 y2 y3 y4 y5 y6 y7 y8 y9 z0 z1 z2 z3 z4 z5 z6 z7 z8 z9; obtain ⟨x0, x1, x2, x3, x4, x5, x6, x7, x8, x9⟩ := ten_of X2.out.blk; obtain ⟨y0, y1, y2, y3, y4, y5, y6, y7, y8, y9⟩ := ten_of Y2.out.blk; obtain ⟨z0, z1, z2, z3, z4, z5, z6, z7, z8, z9⟩ := ten_of Z2.out.blk)
      | (go_at_call 38; (with_reducible refine (N2.out _).mono ?_); rintro e3 w3 ⟨rfl, hb3⟩; have B3 := Lib.hid (below_next B2.out hb3); have X3 := Lib.hid (X2.out.below hb3); have Y3 := Lib.hid (Y2.out.below hb3); have Z3 := Lib.hid (Z2.out.below hb3); clear hb3 x0 x1 x2 x3 x4 x5 x6 x7 x8 x9 y0 y1 y2 y3 y4 y5 y6 y7 y8 y9 z0 z1 z2 z3 z4 z5 z6 z7 z8 z9; obtain ⟨x0, x1, x2, x3, x4, x5, x6, x7, x8, x9⟩ := ten_of X3.out.blk; obtain ⟨y0, y1, y2, y3, y4, y5, y6, y7, y8, y9⟩ := ten_of Y3.out.blk; obtain ⟨z0, z1, z2, z3, z4, z5, z6, z7, z8, z9⟩ := ten_of Z3.out.blk)
      | (go_at_call 38; (with_reducible refine (N3.out _).mono ?_); rintro e4 w4 ⟨rfl, hb4⟩; have B4 := Lib.hid (below_next B3.out hb4); have X4 := Lib.hid (X3.out.below hb4); have Y4 := Lib.hid (Y3.out.below hb4); have Z4 := Lib.hid (Z3.out.below hb4); clear hb4 x0 x1 x2 x3 x4 x5 x6 x7 x8 x9 y0 y1 y2 y3 y4 y5 y6 y7 y8 y9 z0 z1 z2 z3 z4 z5 z6 z7 z8 z9; obtain ⟨x0, x1, x2, x3, x4, x5, x6, x7, x8, x9⟩ := ten_of X4.out.blk; obtain ⟨y0, y1, y2, y3, y4, y5, y6, y7, y8, y9⟩ := ten_of Y4.out.blk; obtain ⟨z0, z1, z2, z3, z4, z5, z6, z7, z8, z9⟩ := ten_of Z4.out.blk)
      | (go_at_call 38; (with_reducible refine (N4.out _).mono ?_); rintro e5 w5 ⟨rfl, hb5⟩; have B5 := Lib.hid (below_next B4.out hb5); have X5 := Lib.hid (X4.out.below hb5); have Y5 := Lib.hid (Y4.out.below hb5); have Z5 := Lib.hid (Z4.out.below hb5); clear hb5 x0 x1 x2 x3 x4 x5 x6 x7 x8 x9 y0 y1 y2 y3 y4 y5 y6 y7 y8 y9 z0 z1 z2 z3 z4 z5 z6 z7 z8 z9; obtain ⟨x0, x1, x2, x3, x4, x5, x6, x7, x8, x9⟩ := ten_of X5.out.blk; obtain ⟨y0, y1, y2, y3, y4, y5, y6, y7, y8, y9⟩ := ten_of Y5.out.blk; obtain ⟨z0, z1, z2, z3, z4, z5, z6, z7, z8, z9⟩ := ten_of Z5.out.blk)
      | (go_at_call 38; (with_reducible refine (N5.out _).mono ?_); rintro e6 w6 ⟨rfl, hb6⟩; have B6 := Lib.hid (below_next B5.out hb6); have X6 := Lib.hid (X5.out.below hb6); have Y6 := Lib.hid (Y5.out.below hb6); have Z6 := Lib.hid (Z5.out.below hb6); clear hb6 x0 x1 x2 x3 x4 x5 x6 x7 x8 x9 y0 y1 y2 y3 y4 y5 y6 y7 y8 y9 z0 z1 z2 z3 z4 z5 z6 z7 z8 z9; obtain ⟨x0, x1, x2, x3, x4, x5, x6, x7, x8, x9⟩ := ten_of X6.out.blk; obtain ⟨y0, y1, y2, y3, y4, y5, y6, y7, y8, y9⟩ := ten_of Y6.out.blk; obtain ⟨z0, z1, z2, z3, z4, z5, z6, z7, z8, z9⟩ := ten_of Z6.out.blk))
    go_ret
    exact ⟨rfl, by first | exact B6.out | exact B5.out | exact B4.out⟩
  · subst h0
    go_enter Tryz.func9, Tryz.ntmps9
    go_wp2_with (first
      | (go_at_call 32; (with_reducible refine (A1.out _ B0.out).mono ?_); rintro e1 w1 ⟨rfl, hb1⟩; have B1 := Lib.hid (below_next B0.out hb1); have X1 := Lib.hid (X0.out.below hb1); have Y1 := Lib.hid (Y0.out.below hb1); have Z1 := Lib.hid (Z0.out.below hb1); clear hb1; obtain ⟨x0, x1, x2, x3, x4, x5, x6, x7, x8, x9⟩ := ten_of X1.out.blk; obtain ⟨y0, y1, y2, y3, y4, y5, y6, y7, y8, y9⟩ := ten_of Y1.out.blk; obtain ⟨z0, z1, z2, z3, z4, z5, z6, z7, z8, z9⟩ := ten_of Z1.out.blk)
      | (go_at_call 38; (with_reducible refine (N1.out _).mono ?_); rintro e2 w2 ⟨rfl, hb2⟩; have B2 := Lib.hid (below_next B1.out hb2); have X2 := Lib.hid (X1.out.below hb2); have Y2 := Lib.hid (Y1.out.below hb2); have Z2 := Lib.hid (Z1.out.below hb2); clear hb2 x0 x1 x2 x3 x4 x5 x6 x7 x8 x9 y0 y1 y2 y3 y4 y5 y6 y7 y8 y9 z0 z1 z2 z3 z4 z5 z6 z7 z8 z9; obtain ⟨x0, x1, x2, x3, x4, x5, x6, x7, x8, x9⟩ := ten_of X2.out.blk; obtain ⟨y0, y1, y2, y3, y4, y5, y6, y7, y8, y9⟩ := ten_of Y2.out.blk; obtain ⟨z0, z1, z2, z3, z4, z5, z6, z7, z8, z9⟩ := ten_of Z2.out.blk)
      | (go_at_call 38; (with_reducible refine (N2.out _).mono ?_); rintro e3 w3 ⟨rfl, hb3⟩; have B3 := Lib.hid (below_next B2.out hb3); have X3 := Lib.hid (X2.out.below hb3); have Y3 := Lib.hid (Y2.out.below hb3); have Z3 := Lib.hid (Z2.out.below hb3); clear hb3 x0 x1 x2 x3 x4 x5 x6 x7 x8 x9 y0 y1 y2 y3 y4 y5 y6 y7 y8 y9 z0 z1 z2 z3 z4 z5 z6 z7 z8 z9; obtain ⟨x0, x1, x2, x3, x4, x5, x6, x7, x8, x9⟩ := ten_of X3.out.blk; obtain ⟨y0, y1, y2, y3, y4, y5, y6, y7, y8, y9⟩ := ten_of Y3.out.blk; obtain ⟨z0, z1, z2, z3, z4, z5, z6, z7, z8, z9⟩ := ten_of Z3.out.blk)
      | (go_at_call 38; (with_reducible refine (N3.out _).mono ?_); rintro e4 w4 ⟨rfl, hb4⟩; have B4 := Lib.hid (below_next B3.out hb4); have X4 := Lib.hid (X3.out.below hb4); have Y4 := Lib.hid (Y3.out.below hb4); have Z4 := Lib.hid (Z3.out.below hb4); clear hb4 x0 x1 x2 x3 x4 x5 x6 x7 x8 x9 y0 y1 y2 y3 y4 y5 y6 y7 y8 y9 z0 z1 z2 z3 z4 z5 z6 z7 z8 z9; obtain ⟨x0, x1, x2, x3, x4, x5, x6, x7, x8, x9⟩ := ten_of X4.out.blk; obtain ⟨y0, y1, y2, y3, y4, y5, y6, y7, y8, y9⟩ := ten_of Y4.out.blk; obtain ⟨z0, z1, z2, z3, z4, z5, z6, z7, z8, z9⟩ := ten_of Z4.out.blk)
      | (go_at_call 38; (with_reducible refine (N4.out _).mono ?_); rintro e5 w5 ⟨rfl, hb5⟩; have B5 := Lib.hid (below_next B4.out hb5); have X5 := Lib.hid (X4.out.below hb5); have Y5 := Lib.hid (Y4.out.below hb5); have Z5 := Lib.hid (Z4.out.below hb5); clear hb5 x0 x1 x2 x3 x4 x5 x6 x7 x8 x9 y0 y1 y2 y3 y4 y5 y6 y7 y8 y9 z0 z1 z2 z3 z4 z5 z6 z7 z8 z9; obtain ⟨x0, x1, x2, x3, x4, x5, x6, x7, x8, x9⟩ := ten_of X5.out.blk; obtain ⟨y0, y1, y2, y3, y4, y5, y6, y7, y8, y9⟩ := ten_of Y5.out.blk; obtain ⟨z0, z1, z2, z3, z4, z5, z6, z7, z8, z9⟩ := ten_of Z5.out.blk)
      | (go_at_call 38; (with_reducible refine (N5.out _).mono ?_); rintro e6 w6 ⟨rfl, hb6⟩; have B6 := Lib.hid (below_next B5.out hb6); have X6 := Lib.hid (X5.out.below hb6); have Y6 := Lib.hid (Y5.out.below hb6); have Z6 := Lib.hid (Z5.out.below hb6); clear hb6 x0 x1 x2 x3 x4 x5 x6 x7 x8 x9 y0 y1 y2 y3 y4 y5 y6 y7 y8 y9 z0 z1 z2 z3 z4 z5 z6 z7 z8 z9; obtain ⟨x0, x1, x2, x3, x4, x5, x6, x7, x8, x9⟩ := ten_of X6.out.blk; obtain ⟨y0, y1, y2, y3, y4, y5, y6, y7, y8, y9⟩ := ten_of Y6.out.blk; obtain ⟨z0, z1, z2, z3, z4, z5, z6, z7, z8, z9⟩ := ten_of Z6.out.blk))
    go_ret
    exact ⟨rfl, by first | exact B6.out | exact B5.out | exact B4.out⟩
end Go.Proofs.YtcpggmdiojaalaaGreatDoor.Sta

/- The law StateNewer (of two states one is newer, unless both have one Boot and Header) answers true for all states, three at a time; taken that Go's own tables (those of strconv, math/bits and unicode/utf8) hold what the program's text lays, which the card ties. -/
set_option linter.unusedSimpArgs false
set_option linter.unusedVariables false
namespace Go.Proofs.YtcpggmdiojaalaaGreatDoor.stateNewer
open Go.ChangeShapes Go.WideShapes Go.ChangeAt Go.RowKit Go.Proofs.YtcpggmdiojaalaaGreatDoor.Sta Go.Proofs.YtcpggmdiojaalaaGreatDoor.Od
open Go.Proofs.YtcpggmdiojaalaaGreatDoor.Js (laid5 laid_met laidWorld tab_of_laid)

set_option maxRecDepth 100000 in
theorem contract (H : Type) (enc : TypeId × Value → H) (W : World) (base : Nat) (args : Array Value) (ds gs : List (DataW H)) (before : List MemPlace)
    (hval : ∀ (j : Nat) t v, Tryz.f9.params[j]? = some t → args[j]? = some v → Value.okWide Tryz.prog W .any base t v)
    (hW : DataW.Whole enc Tryz.prog Tryz.f9.params.toList Rows.stateNewerSpec.vars false W args.toList ds gs before) (hz : (DataW.weightsEach Tryz.prog (Tryz.f9.params.toList ++ (OpenSpec.ofChange Rows.stateNewerSpec).bare.plain.varTypes Tryz.prog) (ds ++ gs)).all (· ≤ reachBytes) = true) (hL : laidMetH Tryz.prog laid5 W) :
    Calls Tryz.prog 9 args W fun e W' => ∃ v, e = .returned v ∧ Rows.stateNewerSpec.post enc Tryz.prog Tryz.f9 false true false false W args v W' := by
  have hT := tab_of_laid hL
  clear hL
  have hW' := hW
  have hlt := hW.lt
  obtain ⟨p, q, hA0, hV, rfl, hfz, hnd⟩ := hW
  have hA : DataW.TrodAll enc Tryz.prog W 0 (fun _ => true) true Tryz.f9.params.toList args.toList ds p := hA0
  rw [Tryz.params9] at hA hval
  obtain ⟨v0, vs0, d0, ds0, p0, q0, hargs, rfl, rfl, h0, r0⟩ := trodAll_cons hA
  obtain ⟨v1, vs1, d1, ds1, p1, q1, rfl, rfl, rfl, h1, r1⟩ := trodAll_cons r0
  obtain ⟨v2, vs2, d2, ds2, p2, q2, rfl, rfl, rfl, h2, r2⟩ := trodAll_cons r1
  obtain ⟨rfl, rfl, rfl⟩ := trodAll_nil r2
  obtain rfl : args = #[v0, v1, v2] := Array.ext' hargs
  obtain ⟨rfl, rfl⟩ := trodVars_none hV
  have k0 := h0
  have k1 := h1
  have k2 := h2
  have wt0 : Wt 53 d0 := wt_of hz (j := 0) (by rw [Tryz.params9]; rfl) rfl
  obtain ⟨z0, rfl, hz0⟩ := open_state (hval 0 53 v0 rfl rfl) h0 wt0
  have wt1 : Wt 53 d1 := wt_of hz (j := 1) (by rw [Tryz.params9]; rfl) rfl
  obtain ⟨z1, rfl, hz1⟩ := open_state (hval 1 53 v1 rfl rfl) h1 wt1
  have wt2 : Wt 53 d2 := wt_of hz (j := 2) (by rw [Tryz.params9]; rfl) rfl
  obtain ⟨z2, rfl, hz2⟩ := open_state (hval 2 53 v2 rfl rfl) h2 wt2
  clear hA0
  simp only [List.append_nil] at hW'
  refine (newer9_walk z0 z1 z2 W hT hz0 hz1 hz2).mono fun e W' ⟨he, hg⟩ => ?_
  subst he
  exact ⟨_, rfl, _, _, _, [], _, [], hW', trodAll_cons_mk (shut_bool Tryz.underlying4 _) trodAll_mk0,
    (trodAll_cons_mk (Below.trod laidOut (by kernel_rfl) (of_decide_eq_true (by kernel_rfl)) k0 hg (fun x hx => by first | (exact absurd hx (by simp)) | exact hlt x (by simp [hx]))) (trodAll_cons_mk (Below.trod laidOut (by kernel_rfl) (of_decide_eq_true (by kernel_rfl)) k1 hg (fun x hx => by first | (exact absurd hx (by simp)) | exact hlt x (by simp [hx]))) (trodAll_cons_mk (Below.trod laidOut (by kernel_rfl) (of_decide_eq_true (by kernel_rfl)) k2 hg (fun x hx => by first | (exact absurd hx (by simp)) | exact hlt x (by simp [hx]))) trodAll_mk0))), rfl,
    hg.frame _, fun h => by cases h⟩

theorem reads (os : Os) {H : Type} (enc : TypeId × Value → H) : ∃ places, DataW.whole enc Tryz.prog ((laidWorld os).forCall (fun _ _ => 0) ⟨#[], #[.agg #[.int .i64 0, .int .i64 0, .string ⟨#[]⟩, .int .i64 0, .int .i64 0, .bool false, .int .i64 0, .int .i64 0, .bool false, .int .i64 0], .agg #[.int .i64 0, .int .i64 0, .string ⟨#[]⟩, .int .i64 0, .int .i64 0, .bool false, .int .i64 0, .int .i64 0, .bool false, .int .i64 0], .agg #[.int .i64 0, .int .i64 0, .string ⟨#[]⟩, .int .i64 0, .int .i64 0, .bool false, .int .i64 0, .int .i64 0, .bool false, .int .i64 0]], []⟩).memory Tryz.f9.params.toList Rows.stateNewerSpec.vars false (#[Value.agg #[.int .i64 0, .int .i64 0, .string ⟨#[]⟩, .int .i64 0, .int .i64 0, .bool false, .int .i64 0, .int .i64 0, .bool false, .int .i64 0], Value.agg #[.int .i64 0, .int .i64 0, .string ⟨#[]⟩, .int .i64 0, .int .i64 0, .bool false, .int .i64 0, .int .i64 0, .bool false, .int .i64 0], Value.agg #[.int .i64 0, .int .i64 0, .string ⟨#[]⟩, .int .i64 0, .int .i64 0, .bool false, .int .i64 0, .int .i64 0, .bool false, .int .i64 0]] : Array Value).toList 8 = some ([.agg [.lit (.int .i64 0), .lit (.int .i64 0), .lit (.string []), .lit (.int .i64 0), .lit (.int .i64 0), .lit (.bool false), .lit (.int .i64 0), .lit (.int .i64 0), .lit (.bool false), .lit (.int .i64 0)], .agg [.lit (.int .i64 0), .lit (.int .i64 0), .lit (.string []), .lit (.int .i64 0), .lit (.int .i64 0), .lit (.bool false), .lit (.int .i64 0), .lit (.int .i64 0), .lit (.bool false), .lit (.int .i64 0)], .agg [.lit (.int .i64 0), .lit (.int .i64 0), .lit (.string []), .lit (.int .i64 0), .lit (.int .i64 0), .lit (.bool false), .lit (.int .i64 0), .lit (.int .i64 0), .lit (.bool false), .lit (.int .i64 0)]], [], places) :=
  ⟨[], by kernel_rfl⟩

set_option maxRecDepth 100000 in
theorem lifted (os : Os) (started : os.Started) (H : Type) (enc : TypeId × Value → H) (F : Stop.Interp) :
    ReturnsInHanded {} Tryz.checked os 9 .any ((OpenSpec.ofChange Rows.stateNewerSpec).preRow enc Tryz.prog Tryz.f9 Rows.stateNewerRow.domain false Rows.stateNewerRow.laid) (((OpenSpec.ofChange Rows.stateNewerSpec).at F).post enc Tryz.prog Tryz.f9 false true false false) := by
  obtain ⟨places, hx⟩ := reads os enc
  refine returnsInHanded_of_row (C := Tryz.checked) (s := OpenSpec.ofChange Rows.stateNewerSpec) own started (by kernel_rfl) Tryz.func9
    (witness_row_at (enc := enc) (C := Tryz.checked) false (laidWorld os) #[.agg #[.int .i64 0, .int .i64 0, .string ⟨#[]⟩, .int .i64 0, .int .i64 0, .bool false, .int .i64 0, .int .i64 0, .bool false, .int .i64 0], .agg #[.int .i64 0, .int .i64 0, .string ⟨#[]⟩, .int .i64 0, .int .i64 0, .bool false, .int .i64 0, .int .i64 0, .bool false, .int .i64 0], .agg #[.int .i64 0, .int .i64 0, .string ⟨#[]⟩, .int .i64 0, .int .i64 0, .bool false, .int .i64 0, .int .i64 0, .bool false, .int .i64 0]] rfl (by kernel_rfl) (by kernel_rfl) (by kernel_rfl)
      (OpenSpec.preRow_of_cond 8 hx (by kernel_rfl) (fun k hk => by cases hk) (by kernel_rfl) (laid_met os _))) ?_
  intro W base args ds gs before hval hW _ _ hz hL _ _
  exact contract H enc W base args ds gs before hval hW hz hL

theorem said : Rows.StateNewerSaid :=
  OpenClaim.holds_of_cond 9 Tryz.f9 rfl rfl rfl rfl rfl rfl rfl ⟨rfl, rfl, rfl, rfl, rfl⟩ rfl rfl rfl rfl rfl (by kernel_rfl) Tryz.func9 (by kernel_rfl)
    (of_decide_eq_true (by kernel_rfl)) (by unfold Func.isWrapper; first | (rw [if_pos (by decide +kernel)]; kernel_rfl) | (rw [if_neg (by decide +kernel)]; exact ⟨rfl, rfl⟩))
    (fun os started H enc _ F => by rw [OpenClaim.pre_eq_preRow]; exact lifted os started H enc F)

theorem plain (f : FuncId) (fn : Func) (hf : Tryz.pinned.checked.prog.funcNamed Rows.stateNewerRow.func = some f) (hfn : Tryz.pinned.checked.prog.funcs[f]? = some fn) :
    false = Tryz.pinned.checked.prog.looks [] ∧ ∀ (j : Nat) t, fn.params[j]? = some t → Tryz.pinned.checked.prog.wantsStandIn t = false := by
  obtain rfl : f = 9 := Option.some.inj ((show Tryz.prog.funcNamed Rows.stateNewerRow.func = some 9 by kernel_rfl).symm.trans hf) |>.symm
  obtain rfl : fn = Tryz.f9 := (Option.some.inj (Tryz.func9.symm.trans hfn)).symm
  refine ⟨by kernel_rfl, fun j t ht => ?_⟩
  rw [Tryz.params9] at ht
  obtain rfl : t = 53 := by simpa using Array.mem_of_getElem? ht
  exact (show Tryz.prog.wantsStandIn 53 = false by kernel_rfl)

theorem card : Rows.StateNewerCardSaid :=
  Claim7.holds_tied_plain_at .later [] _ _ _ _ said (fun _ h => by cases h) (by kernel_rfl) (fun _ h => by cases h) stateNewer_row_tie rfl ⟨rfl, rfl⟩ (by kernel_rfl) rfl plain (by kernel_rfl)
end Go.Proofs.YtcpggmdiojaalaaGreatDoor.stateNewer
