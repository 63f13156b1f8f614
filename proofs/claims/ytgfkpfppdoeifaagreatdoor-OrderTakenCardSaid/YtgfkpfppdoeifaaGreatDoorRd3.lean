import Derived.Test.YtgfkpfppdoeifaaGreatDoorRd2
/- The reader: name. -/
set_option linter.unusedVariables false
set_option linter.unusedSimpArgs false
namespace Go.Proofs.YtgfkpfppdoeifaaGreatDoor.Js
open Go.RowKit Lex

theorem set_ne {w : World} {sb b : Nat} {seen : List (List UInt8)} {cs : Array Value} {T : TypeId} {f : Nat × Nat} (h : SetIs w sb seen) (hb : w.heap[b]? = some (.cells cs T f)) : sb ≠ b := by
  rintro rfl
  obtain ⟨es, clock, q, _⟩ := h
  rw [q] at hb; cases hb
theorem name_no {seen : List (List UInt8)} {x : Tok} {l : List Tok} (h : x.k ≠ 2) : nameS seen (x :: l) = (40, [], x :: l) := by unfold nameS; simp [h]
theorem name_twice {seen : List (List UInt8)} {x : Tok} {l : List Tok} (h : x.k = 2) (hs : seen.contains x.t = true) : nameS seen (x :: l) = (42, [], x :: l) := by unfold nameS; dsimp only; rw [if_pos h, if_pos hs]
theorem name_yes {seen : List (List UInt8)} {x y : Tok} {l : List Tok} (h : x.k = 2) (hs : seen.contains x.t = false) (hy : sgB y 58 = true) : nameS seen (x :: y :: l) = (0, x.t, l) := by unfold nameS; dsimp only; rw [if_pos h, if_neg (by rw [hs]; decide)]; rw [if_pos hy]
theorem name_bad {seen : List (List UInt8)} {x y : Tok} {l : List Tok} (h : x.k = 2) (hs : seen.contains x.t = false) (hy : sgB y 58 = false) : nameS seen (x :: y :: l) = (40, [], y :: l) := by unfold nameS; dsimp only; rw [if_pos h, if_neg (by rw [hs]; decide)]; rw [if_neg (by rw [hy]; decide)]
theorem Rd.chg {w w' : World} {rb bt cap : Nat} {ts l : List Tok} {X : Nat → Prop} (h : Rd w rb bt cap ts l) (hc : Chg X w w') (h1 : ¬ X rb) (h2 : ¬ X bt) : Rd w' rb bt cap ts l :=
  h.keep (hc.block _ h.lt h1) (hc.block _ h.blt h2) hc.size
theorem SetIs.chg {w w' : World} {sb : Nat} {seen : List (List UInt8)} {X : Nat → Prop} (h : SetIs w sb seen) (hc : Chg X w w') (h1 : ¬ X sb) : SetIs w' sb seen := h.keep (hc.block _ h.lt h1)
theorem Rd.tok_ne {w : World} {rb bt cap : Nat} {ts l : List Tok} (h : Rd w rb bt cap ts l) {sb : Nat} {seen : List (List UInt8)} (hs : SetIs w sb seen) : sb ≠ rb ∧ sb ≠ bt := by
  refine ⟨set_ne hs h.blk, ?_⟩
  rintro rfl
  obtain ⟨x, r, rfl⟩ := ex_cons h.fin
  have h0 := (h.toks _ h.at_.1).c0
  obtain ⟨es, clock, q, _⟩ := hs
  simp [World.cell?, q] at h0

set_option maxHeartbeats 2000000 in
set_option maxRecDepth 100000 in
theorem name_any {w : World} {rb bt cap sb : Nat} {ts l : List Tok} {seen : List (List UInt8)} (h : Rd w rb bt cap ts l) (hs : SetIs w sb seen) (hl : seen.length ≤ 1000000) :
    Calls Tryz.prog 131 #[.pointer (some ⟨rb, 0, none⟩), .map (some sb)] w fun e w' => e = .returned (.tuple #[.string ⟨(nameS seen l).2.1.toArray⟩, .int .i64 (nameS seen l).1]) ∧ Rd w' rb bt cap ts (nameS seen l).2.2 ∧ Chg (fun k => k = rb ∨ k = sb) w w' ∧
      ((nameS seen l).1 = 0 → SetIs w' sb (seen ++ [(nameS seen l).2.1])) := by
  obtain ⟨x, l1, rfl⟩ := ex_cons h.fin
  have H1 := Lib.hid (here_any h)
  unfold tokV at H1
  have HR := Lib.hid h
  have HS := Lib.hid hs
  obtain ⟨n1, n2⟩ := h.tok_ne hs
  have HNE := Lib.hid (And.intro n1 n2)
  have hrl := h.lt
  have hsl := hs.lt
  have hxt : txtB x.t := (h.good x (h.suf.mem (by simp))).len
  have HX := Lib.hid hxt
  have hm1 : ∀ w w', Chg (· = rb) w w' → Chg (fun k => k = rb ∨ k = sb) w w' := fun w w' h => h.mono (fun _ _ e => .inl e)
  have hm2 : ∀ w w', Chg (· = sb) w w' → Chg (fun k => k = rb ∨ k = sb) w w' := fun w w' h => h.mono (fun _ _ e => .inr e)
  have HM := Lib.hid (And.intro hm1 hm2)
  have HSL := Lib.hid hsl
  clear h hs n1 n2 hxt hsl hm1 hm2
  by_cases hk : x.k = 2
  · cases hc : seen.contains x.t with
    | true =>
      rw [name_twice hk hc]
      rw [hk] at H1
      obtain ⟨K, T, M, E, Q⟩ := x
      simp only at *
      go_enter Tryz.func131, Tryz.ntmps131
      go_wp2_with (first
        | (go_at_call 55; (with_reducible refine (H1.out).mono ?_); rintro e1 w1 ⟨rfl, hb1⟩; have hb1' := fun o => hb1.alloc hb1.size o)
        | (go_at_call 160; (with_reducible refine (add_any sb seen T _ (HS.out.chg (.of_below (X := fun _ => False) (hb1' _)) (fun h => h)) HX.out (by omega)).mono ?_); rw [hc]; rintro e2 w2 ⟨rfl, hs2, hm2⟩))
      go_ret2
      have hc2 := (Chg.of_below (X := fun k => k = rb ∨ k = sb) (hb1' _)).trans (HM.out.2 _ _ (Chg.of_moves hm2))
      refine ⟨rfl, ?_, hc2, fun h => absurd (show (42 : Int) = 0 from h) (by decide)⟩
      exact (HR.out.below (hb1' _)).chg (Chg.of_moves hm2) (fun h => HNE.out.1 h.symm) (fun h => HNE.out.2 h.symm)
    | false =>
      rw [hk] at H1
      have hx5 : x.k ≠ 5 := by omega
      obtain ⟨y, l2, rfl⟩ := ex_cons (HR.out.fin.tail hx5)
      have HNX := Lib.hid (fun w' (hr : Rd w' rb bt cap ts (x :: y :: l2)) => hr.next hx5)
      have HKK := Lib.hid hk
      have hle := HR.out.at_.1
      have hln := HR.out.len
      obtain ⟨P, HP⟩ : ∃ P, Hid (ts.length - (x :: y :: l2).length = P) := ⟨_, rfl⟩
      have HBK := Lib.hid (fun w' (hr : Rd w' rb bt cap ts (x :: y :: l2)) => hr.blk)
      rw [HP.out] at HNX HBK hle
      have hPl : P ≤ 1000000 := by omega
      obtain ⟨T, HT⟩ : ∃ T, Hid (x.t = T) := ⟨_, rfl⟩
      have HCC := Lib.hid hc
      rw [HT.out] at H1 HX hc
      cases hy : sgB y 58 with
      | true =>
        rw [name_yes hk HCC.out hy, HT.out]
        clear hk hle hln
        go_enter Tryz.func131, Tryz.ntmps131
        go_wp2_with (first
          | (go_at_call 55; (with_reducible refine (H1.out).mono ?_); rintro e1 w1 ⟨rfl, hb1⟩; have hb1' := fun o => hb1.alloc hb1.size o; have hs1 := hb1.size)
          | (go_at_call 160; (with_reducible refine (add_any sb seen T _ (HS.out.chg (.of_below (X := fun _ => False) (hb1' _)) (fun h => h)) HX.out (by omega)).mono ?_); rw [hc]; rintro e2 w2 ⟨rfl, hs2, hm2⟩; have hr2 := (HR.out.below (hb1' _)).chg (Chg.of_moves hm2) (fun h => HNE.out.1 h.symm) (fun h => HNE.out.2 h.symm); obtain ⟨r0, r1⟩ := two_of (HBK.out _ hr2); have rf := free_of (HBK.out _ hr2) 1; have hsz2 := hm2.size; simp at hsz2; have tb2 := ((Chg.of_moves hm2).block w1.heap.size (by simp) (fun h => by have := HSL.out; omega)).trans (heap_alloc_new w1 _))
          | (go_at_call 159; (with_reducible refine (take_any (HNX.out _ hr2) 58 _ rfl).mono ?_); rw [hy]; rintro e3 w3 ⟨rfl, hr3, hm3⟩; have tb3 := ((Chg.of_moves hm3).block w1.heap.size (by simp [World.setCell]; omega) (fun h => by omega)).trans ((Below.heap_setCell _ _ _ _ (by show w1.heap.size ≠ rb; omega)).trans tb2); have tc := box_at (Below.refl w3.heap.size w3) tb3 (Own.block_lt tb3) 1; simp at tc))
        go_ret2
        have hc2 := (Chg.of_below (X := fun k => k = rb ∨ k = sb) (hb1' _)).trans (HM.out.2 _ _ (Chg.of_moves hm2))
        have hc3 := (hc2.setCell (p := ⟨rb, 1, none⟩) (.inl (.inl rfl)) _).trans (HM.out.1 _ _ (Chg.of_moves hm3))
        refine ⟨rfl, hr3, hc3, fun _ => ?_⟩
        simp only [Bool.false_eq_true, if_false] at hs2
        refine (SetIs.keep hs2 (Below.heap_setCell _ _ _ _ (by show sb ≠ rb; exact HNE.out.1))).chg (Chg.of_moves hm3) (fun h => HNE.out.1 h)
      | false =>
        rw [name_bad hk HCC.out hy]
        clear hk hle hln
        go_enter Tryz.func131, Tryz.ntmps131
        go_wp2_with (first
          | (go_at_call 55; (with_reducible refine (H1.out).mono ?_); rintro e1 w1 ⟨rfl, hb1⟩; have hb1' := fun o => hb1.alloc hb1.size o; have hs1 := hb1.size)
          | (go_at_call 160; (with_reducible refine (add_any sb seen T _ (HS.out.chg (.of_below (X := fun _ => False) (hb1' _)) (fun h => h)) HX.out (by omega)).mono ?_); rw [hc]; rintro e2 w2 ⟨rfl, hs2, hm2⟩; have hr2 := (HR.out.below (hb1' _)).chg (Chg.of_moves hm2) (fun h => HNE.out.1 h.symm) (fun h => HNE.out.2 h.symm); obtain ⟨r0, r1⟩ := two_of (HBK.out _ hr2); have rf := free_of (HBK.out _ hr2) 1; have hsz2 := hm2.size; simp at hsz2; have tb2 := ((Chg.of_moves hm2).block w1.heap.size (by simp) (fun h => by have := HSL.out; omega)).trans (heap_alloc_new w1 _))
          | (go_at_call 159; (with_reducible refine (take_any (HNX.out _ hr2) 58 _ rfl).mono ?_); rw [hy]; rintro e3 w3 ⟨rfl, hr3, hm3⟩; have tb3 := ((Chg.of_moves hm3).block w1.heap.size (by simp [World.setCell]; omega) (fun h => by omega)).trans ((Below.heap_setCell _ _ _ _ (by show w1.heap.size ≠ rb; omega)).trans tb2); have tc := box_at (Below.refl w3.heap.size w3) tb3 (Own.block_lt tb3) 1; simp at tc))
        go_ret2
        have hc2 := (Chg.of_below (X := fun k => k = rb ∨ k = sb) (hb1' _)).trans (HM.out.2 _ _ (Chg.of_moves hm2))
        have hc3 := (hc2.setCell (p := ⟨rb, 1, none⟩) (.inl (.inl rfl)) _).trans (HM.out.1 _ _ (Chg.of_moves hm3))
        exact ⟨rfl, hr3, hc3, fun h => absurd (show (40 : Int) = 0 from h) (by decide)⟩
  · have hne : ((x.k : Int) != 2) = true := by simp; omega
    rw [name_no hk]
    simp only
    go_enter Tryz.func131, Tryz.ntmps131
    go_wp2_with (go_at_call 55; (with_reducible refine (H1.out).mono ?_); rintro e1 w1 ⟨rfl, hb1⟩; have hb1' := fun o => hb1.alloc hb1.size o)
    go_ret2
    exact ⟨rfl, HR.out.below (hb1' _), .of_below (hb1' _), fun h => absurd (show (40 : Int) = 0 from h) (by decide)⟩
end Go.Proofs.YtgfkpfppdoeifaaGreatDoor.Js
