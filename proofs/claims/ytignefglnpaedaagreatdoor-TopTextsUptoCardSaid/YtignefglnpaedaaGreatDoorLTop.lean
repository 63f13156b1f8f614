import Derived.Test.YtignefglnpaedaaGreatDoorFt7
import Derived.Test.YtignefglnpaedaaGreatDoorSeal
import Derived.OpenShut
/- The walk of the law TopTexts: it answers true. -/
set_option linter.unusedVariables false
set_option linter.unusedSimpArgs false
namespace Go.Proofs.YtignefglnpaedaaGreatDoor.Js
open Go.RowKit Lex

theorem box5 {w w1 : World} {T : TypeId} {c0 c1 c2 c3 c4 : Value} (hb : Below (w.alloc (.cells #[c0, c1, c2, c3, c4] T)).heap.size (w.alloc (.cells #[c0, c1, c2, c3, c4] T)) w1) : w1.heap[w.heap.size]? = some (.cells #[c0, c1, c2, c3, c4] T (0, 0)) ∧ w.heap.size < w1.heap.size ∧ Below w.heap.size w w1 := by
  have hs := hb.size
  simp at hs
  exact ⟨(hb.block _ (by simp)).trans (heap_alloc_new w _), by omega, ((Below.refl _ _).alloc (Nat.le_refl _) _).trans (hb.mono (by simp))⟩
theorem box6 {w w1 : World} {T : TypeId} {c0 c1 c2 c3 c4 c5 : Value} (hb : Below (w.alloc (.cells #[c0, c1, c2, c3, c4, c5] T)).heap.size (w.alloc (.cells #[c0, c1, c2, c3, c4, c5] T)) w1) : w1.heap[w.heap.size]? = some (.cells #[c0, c1, c2, c3, c4, c5] T (0, 0)) ∧ w.heap.size < w1.heap.size ∧ Below w.heap.size w w1 := by
  have hs := hb.size
  simp at hs
  exact ⟨(hb.block _ (by simp)).trans (heap_alloc_new w _), by omega, ((Below.refl _ _).alloc (Nat.le_refl _) _).trans (hb.mono (by simp))⟩
theorem below_step {a b c : World} (h : Below a.heap.size a b) (k : Below b.heap.size b c) : Below a.heap.size a c := h.trans (k.mono h.size)
theorem byte_of {n : Int} (h : (Lit.int .u8 n).wf = true) : ∃ c : UInt8, n = (c.toNat : Int) := by
  obtain ⟨h0, h1⟩ := bounds_u8 h
  refine ⟨UInt8.ofNat n.toNat, ?_⟩
  rw [UInt8.toNat_ofNat']
  omega
theorem below_a (w : World) (o : Obj) : Below w.heap.size w (w.alloc o) := (Below.refl _ _).alloc (Nat.le_refl _) _

set_option maxHeartbeats 8000000 in
set_option maxRecDepth 100000 in
theorem top_walk (v : Value) (r : RT) (at0 : Int) (c : UInt8) (w : World) (hT : Dec.Tab w) (hR : RAt w 15 v r) (hs : rsz r ≤ 1048576) (a0 : -9223372036854775808 ≤ at0) (a1 : at0 ≤ 9223372036854775807) :
    Calls Tryz.prog 3 #[v, .int .i64 at0, .int .u8 c.toNat] w (Ret (.bool true) w) := by
  obtain ⟨p1, p2, p3⟩ := fit_printed 15 r (by omega) hs
  obtain ⟨k, m, e, ao, tl, cc, ai, ni, ci, rfl, -⟩ := hR.form
  have F1 := Lib.hid (fun (w' : World) (hb : Below w.heap.size w w') => fit_at 15 (by omega) 1 rfl w' _ r (hR.below hb))
  have PP := Lib.hid (fun h => parse_print (j := fitJ 15 r) p1 h)
  have hne := print_ne p1
  have HT : Hid (∀ w', Below w.heap.size w w' → Dec.Tab w') := fun w' hb => hT.below hb
  clear hR hs hT
  generalize fitJ 15 r = jj at *
  have PR := Lib.hid (fun w' v' (hT : Dec.Tab w') (h : JA Any w' v' jj) => print_of Any v' jj w' hT h (by omega))
  rw [p2] at PR
  have SA := Lib.hid (fun w' v1 v2 (h : JA Any w' v1 jj) (h2 : JA Any w' v2 jj) => same_of Any Any v1 v2 jj jj w' h h2)
  rw [sameJ_refl] at SA
  clear p1 p2
  generalize printJ jj = s at *
  by_cases hl : s.length ≤ 20000
  · have PX := Lib.hid (fun w' => parse_x s 0 jj 0 (PP.out (by omega)) _ rfl (by unfold maxLen; omega) w')
    have hl' : (s.length : Int) ≤ 20000 := by omega
    have hne' : ¬ s = [] := hne
    have hie : s.isEmpty = false := by simpa using hne
    have S1 := Lib.hid (fun u => Se.seal_l s u (by omega))
    have O1 := Lib.hid (fun u => Se.open_some (Se.open_seal s) u (by rw [Se.sealS_len]; omega))
    have hq : (⟨(Se.sealS s).toArray⟩ : ByteArray).size = s.length + 9 := by rw [Se.bs_size, Se.sealS_len]
    have pk0 := Se.pickS_nonneg (c := at0) (n := (s.length : Int) + 9) (by omega)
    have pk1 := Se.pickS_lt (c := at0) (n := (s.length : Int) + 9) (by omega)
    have PK := Lib.hid (fun u => Se.pick_any at0 ((s.length : Int) + 9) u a0 a1 (by omega) (by omega))
    generalize Se.pickS at0 ((s.length : Int) + 9) = mm at *
    obtain ⟨kk, rfl⟩ := Int.eq_ofNat_of_zero_le pk0
    have hk : kk < (Se.sealS s).length := by rw [Se.sealS_len]; omega
    have HO : Hid (Se.openS ((Se.sealS s).set kk (Se.turnB (Se.sealS s)[kk] c)) = none) := by
      have e : Se.sealS s = (Se.sealS s).take kk ++ (Se.sealS s)[kk] :: (Se.sealS s).drop (kk + 1) := by
        rw [← List.drop_eq_getElem_cons hk, List.take_append_drop]
      have := Se.open_changed _ _ e (Se.turn_ne (Se.sealS s)[kk] c)
      show _ = _
      rw [List.set_eq_take_append_cons_drop, if_pos hk]
      exact this
    have C2 := Lib.hid (fun u => Se.open_none HO.out u (by rw [List.length_set, Se.sealS_len]; omega))
    have RL := Lib.hid (fun u => Se.row_laid u (Se.sealS s))
    have hL := Se.sealS_len s
    clear HO
    have HK : Hid (kk < (Se.sealS s).length) := hk
    have HX := Lib.hid (Se.turn_bits (Se.sealS s)[kk] c)
    generalize hx : (Se.sealS s)[kk] = x at *
    have Hx := Lib.hid hx
    clear hx
    generalize hy : Se.turnB x c = y at *
    clear hy
    rw [hL] at RL
    generalize Se.sealS s = L at *
    have hkn : kk < s.length + 9 := by omega
    generalize (⟨L.toArray⟩ : ByteArray) = q at *
    clear pk0 pk1
    have Hn : Hid (L.length = s.length + 9) := hL
    clear hL hk
    go_enter Tryz.func3, Tryz.ntmps3
    go_wp2_with (first
      | (go_at_call 4; (with_reducible refine (F1.out _ (below_a _ _)).mono ?_); rintro e2 w2 ⟨k2, m2, e2', t2, an2, nn2, cn2, ai2, ni2, ci2, rfl, hJ2, hb2⟩; have hbw2 := below_step (below_a _ _) hb2; have HJ2 := Lib.hid hJ2; clear hb2 hJ2)
      | (go_at_call 5; (with_reducible refine (PR.out _ _ (HT.out _ (below_step hbw2 (below_a _ _))) (HJ2.out.below (below_a _ _) (Nat.le_refl _))).mono ?_); rintro e3 w3 ⟨rfl, hb3⟩; obtain ⟨x3, x4, hbw3'⟩ := box6 hb3; have hbw3 := below_step hbw2 hbw3')
      | (go_at_call 6; (with_reducible refine (S1.out _).mono ?_); rintro e4 wA ⟨rfl, hbA⟩; have x3A := (hbA.block _ x4).trans x3; have x4A := Nat.lt_of_lt_of_le x4 hbA.size; have hbA' := below_step hbw3' hbA; have hbwA := below_step hbw3 hbA; clear x3 x4 hbA hbw3' hbw3)
      | (go_at_call 7; (with_reducible refine (O1.out _).mono ?_); rintro e5 wB ⟨rfl, hbB⟩; have x3B := (hbB.block _ x4A).trans x3A; have x4B := Nat.lt_of_lt_of_le x4A hbB.size; have hbB' := below_step hbA' hbB; have hbwB := below_step hbwA hbB; clear x3A x4A hbB hbA' hbwA)
      | (go_at_call 8; (with_reducible refine (PX.out _).mono ?_); rintro e6 w4 ⟨k4, m4, e4', t4, an4, nn4, cn4, ai4, ni4, ci4, rfl, hJ4, hb4⟩; have hbw4' := below_step hbB' hb4; have hbw4 := below_step hbwB hb4; have x5 := (hb4.block _ x4B).trans x3B; obtain ⟨q0, q1, q2, q3, q4, q5⟩ := six_of x5; have x6 : w2.heap.size < w4.heap.size := Own.block_lt x5; have HJ4 := Lib.hid hJ4.any)
      | (go_at_call 9; (with_reducible refine (SA.out _ _ _ (HJ2.out.below (below_step hbw4' (below_a _ _)) (Nat.le_refl _)) (HJ4.out.below (below_a _ _) (Nat.le_refl _))).mono ?_); rintro e7 w6 ⟨rfl, hb6⟩; have hbw6 := below_step (below_step hbw4 (below_a _ _)) hb6))
    obtain ⟨cap, W, hcv, hrow, hbw⟩ := RL.out w6
    have HR := Lib.hid hrow
    rw [hcv]
    have hbs : w6.heap.size < W.heap.size := by
      rcases Nat.lt_or_ge w6.heap.size W.heap.size with h' | h'
      · exact h'
      · exfalso
        have := hrow.cell kk HK.out
        simp [World.cell?, Array.getElem?_eq_none h'] at this
    have hcell := hrow.cell kk HK.out
    have hfro := hrow.fro kk HK.out
    have e : L[kk]'HK.out = x := Hx.out
    rw [e] at hcell
    have hbW := below_step hbw6 hbw
    have hle := hbw6.size
    clear hrow hbw hcv RL hbw6 hb6 HJ4 HJ2 hbw4 hbw4' hbB' hbwB hbw2 x3B x4B x5 x6 q0 q1 q2 q3 q4 q5 PX PP PR SA HT F1 S1 O1 hJ4 hb4
    generalize w6.heap.size = b at *
    go_wp2_with (go_at_call 10; (with_reducible refine (PK.out _).mono ?_); rintro e w8 ⟨rfl, rfl⟩)
    rw [HX.out]
    have hS := (HR.out.set (y := y) HK.out).back (cap := cap)
    rw [List.length_set, Hn.out] at hS
    rw [hS]
    have hbX : Below w.heap.size w (W.setCell ⟨b, kk, none⟩ (.int .u8 (y.toNat : Int))) := hbW.setCell hle _
    clear hbW hbs hcell hfro hS e
    generalize (⟨(L.set kk y).toArray⟩ : ByteArray) = lc at *
    generalize W.setCell ⟨b, kk, none⟩ (.int .u8 (y.toNat : Int)) = W2 at *
    go_wp2_with (go_at_call 7; (with_reducible refine (C2.out _).mono ?_); rintro e9 w9 ⟨rfl, hb9⟩)
    go_ret
    exact ⟨rfl, below_step hbX hb9⟩
  · have hl' : 20000 < (s.length : Int) := by omega
    have hie : s.isEmpty = false := by simpa using hne
    go_enter Tryz.func3, Tryz.ntmps3
    go_wp2_with (first
      | (go_at_call 4; (with_reducible refine (F1.out _ (below_a _ _)).mono ?_); rintro e2 w2 ⟨k2, m2, e2', t2, an2, nn2, cn2, ai2, ni2, ci2, rfl, hJ2, hb2⟩; have hbw2 := below_step (below_a _ _) hb2; have HJ2 := Lib.hid hJ2; clear hb2 hJ2)
      | (go_at_call 5; (with_reducible refine (PR.out _ _ (HT.out _ (below_step hbw2 (below_a _ _))) (HJ2.out.below (below_a _ _) (Nat.le_refl _))).mono ?_); rintro e3 w3 ⟨rfl, hb3⟩; obtain ⟨x3, x4, hbw3'⟩ := box6 hb3; have hbw3 := below_step hbw2 hbw3'))
    go_ret
    exact ⟨rfl, hbw3⟩
end Go.Proofs.YtignefglnpaedaaGreatDoor.Js
