import Derived.Test.YtmlpefpjemiccaaGreatDoorRd9
/- The contract of value, at any depth. -/
set_option linter.unusedVariables false
set_option linter.unusedSimpArgs false
namespace Go.Proofs.YtmlpefpjemiccaaGreatDoor.Js
open Go.RowKit Lex

set_option maxHeartbeats 4000000 in
set_option maxRecDepth 100000 in
theorem value_succ (n : Nat) (hn : n ≤ 15) (hv : ValOk n) : ValOk (n + 1) := by
  intro w rb bt cap ts l hR
  obtain ⟨x, l, rfl⟩ := ex_cons hR.fin
  have hb0 : ∀ o, Below w.heap.size w (w.alloc o) := fun o => (Below.refl _ _).alloc (Nat.le_refl _) _
  have HB0 := Lib.hid hb0
  have H1 := Lib.hid (fun o => here_any (hR.below (HB0.out o)))
  have G1 := Lib.hid (fun w => begun_any x w)
  have hrl := hR.lt
  have htl := hR.blt
  have HR := Lib.hid hR
  have hgx : TokG 1099511627776 x := hR.good x (hR.suf.mem (by simp))
  have HGX := Lib.hid hgx
  have HJX := Lib.hid (fun (S : Nat → Prop) (w : World) => begun_jat (S := S) (w := w) (d := n) hgx)
  rw [valS, show 17 - (n + 1) = 16 - n by omega]
  have hle := hR.at_.1
  have hln := hR.len
  have HBK := Lib.hid (fun w' (hr : Rd w' rb bt cap ts (x :: l)) => hr.blk)
  have HNX := Lib.hid (fun w' (hr : Rd w' rb bt cap ts (x :: l)) (h5 : x.k ≠ 5) => hr.next h5)
  have AR := Lib.hid (fun w' l' hr => array_any n hn hv w' rb bt cap ts l' hr)
  have OB := Lib.hid (fun w' l' hr => object_any n hn hv w' rb bt cap ts l' hr)
  have hd : ((16 - n : Nat) : Int) ≤ 16 := by omega
  obtain ⟨D, HD⟩ : ∃ D, Hid (((16 - n : Nat) : Int) = D) := ⟨_, rfl⟩
  rw [HD.out] at AR OB hd ⊢
  obtain ⟨P, HP⟩ : ∃ P, Hid (ts.length - (x :: l).length = P) := ⟨_, rfl⟩
  rw [HP.out] at HNX HBK hle
  have hPl : P ≤ 1000000 := by omega
  have HBX := Lib.hid (begun_form x)
  have HK5 := Lib.hid (fun (h : (begunS x).k ≠ 0) => begun_k h)
  unfold tokV at H1 G1
  unfold begunV bareV at G1 HJX
  clear hR hb0 hle hln hgx
  by_cases hK : (begunS x).k = 0
  · rw [if_pos hK]
    rw [hK] at G1
    obtain ⟨RR, HRR⟩ : ∃ RR : R, Hid ((⟨40, j0, x :: l⟩ : R) = RR) := ⟨_, rfl⟩
    rw [HRR.out]
    clear hK HJX HBX HK5
    generalize (begunS x).m = M at *
    generalize (begunS x).e = E at *
    generalize (begunS x).t = T at *
    go_enter Tryz.func26, Tryz.ntmps26
    go_wp2_with (first
      | (go_at_call 27; (with_reducible refine (H1.out _).mono ?_); rintro e1 w1 ⟨rfl, hb1⟩)
      | (go_at_call 47; (with_reducible refine (G1.out _).mono ?_); rintro e2 w2 ⟨rfl, hb2⟩; obtain ⟨hres, hl2, hbw⟩ := res_block hb1 hb2; obtain ⟨z0, z1, z2, z3, z4, z5⟩ := six_of hres; have f0 := free_of hres 0; have f1 := free_of hres 1; have f2 := free_of hres 2; have f3 := free_of hres 3; have f4 := free_of hres 4; have f5 := free_of hres 5))
    refine bodyPost_ret (v := .tuple #[.agg #[.int .i64 0, .int .i64 0, .int .i64 0, .string ⟨#[]⟩, .slice none 0 0, .slice none 0 0], .int .i64 40]) (by simp [results, Tryz.results26, go_sem, cell_alloc_old, size_set, hl2, z0, z1, z2, z3, z4, z5]) rfl ?_
    exact (vret_fin2 (base := w.heap.size + 1) (.of_below hbw) (by rw [← HRR.out]; exact HR.out.below hbw) (Nat.le_refl _) (by omega) hrl htl (by rw [← HRR.out]) (fun h => absurd h (by decide)) _ _ _ _ _ _).alloc _
  · rw [if_neg hK]
    have h5 : x.k ≠ 5 := HK5.out hK
    have hne : ((begunS x).k == 0) = false := by simpa using hK
    have hdd : D ≤ 16 := hd
    by_cases h6 : (begunS x).k = 6
    · rw [if_pos h6]
      rw [h6] at G1
      obtain ⟨RR, HRR⟩ : ∃ RR : R, Hid (arrS (valS n) l = RR) := ⟨_, rfl⟩
      have AR2 := Lib.hid (fun w' hr => AR.out w' l hr)
      rw [HRR.out] at AR2 ⊢
      clear hK hne h6 HJX HBX HK5 AR OB HRR
      generalize (begunS x).m = M at *
      generalize (begunS x).e = E at *
      generalize (begunS x).t = T at *
      go_enter Tryz.func26, Tryz.ntmps26
      go_wp2_with (first
        | (go_at_call 27; (with_reducible refine (H1.out _).mono ?_); rintro e1 w1 ⟨rfl, hb1⟩)
        | (go_at_call 47; (with_reducible refine (G1.out _).mono ?_); rintro e2 w2 ⟨rfl, hb2⟩; obtain ⟨hres, hl2, hbw⟩ := res_block hb1 hb2; have hr2 := HR.out.below hbw; obtain ⟨r0, r1⟩ := two_of (HBK.out _ hr2); have rf := free_of (HBK.out _ hr2) 1; have hrl2 : rb < w2.heap.size := (by omega); have hr3 := HNX.out _ hr2 h5; have hc2 := ((Chg.of_below (X := (· = rb)) hbw).setCell (p := ⟨rb, 1, none⟩) (.inl rfl) (.int .i64 ((P : Int) + 1))))
        | (go_at_call 48; (with_reducible refine (AR2.out _ (hr3.below ((Below.refl _ _).alloc (Nat.le_refl _) _))).mono ?_); rintro e3 w3 ⟨k, m, e', t, an, nn, cn, ai, ni, ci, rfl, hR3, hc3, hJ3⟩; have HJ3 := Lib.hid hJ3; clear hJ3; have hres3 := (hc3.block w.heap.size (by simp [size_set]; omega) (by omega)).trans ((Below.heap_alloc _ _ _ (by simp [size_set]; omega)).trans ((Below.heap_setCell _ _ _ _ (by show w.heap.size ≠ rb; omega)).trans hres)); obtain ⟨z0, z1, z2, z3, z4, z5⟩ := six_of hres3; have f0 := free_of hres3 0; have f1 := free_of hres3 1; have f2 := free_of hres3 2; have f3 := free_of hres3 3; have f4 := free_of hres3 4; have f5 := free_of hres3 5))
      refine bodyPost_ret (v := .tuple #[.agg #[.int .i64 k, .int .i64 m, .int .i64 e', .string t, .slice an nn cn, .slice ai ni ci], .int .i64 RR.er]) (by simp [results, Tryz.results26, go_sem, z0, z1, z2, z3, z4, z5]) rfl ?_
      have hcc := (hc2.alloc _).trans hc3
      exact vret_fin2 (base := w2.heap.size + 1) hcc hR3 (Nat.le_refl _) (by omega) hrl htl rfl (fun h0 => (HJ3.out h0).keep (fun b hb _ => by simp [size_set] at hb; exact hb) (fun _ _ _ => rfl) (Nat.le_refl _)) _ _ _ _ _ _
    · rw [if_neg h6]
      have hne6 : ((begunS x).k == 6) = false := by simpa using h6
      by_cases h7 : (begunS x).k = 7
      · rw [if_pos h7]
        rw [h7] at G1
        obtain ⟨RR, HRR⟩ : ∃ RR : R, Hid (objS (valS n) l = RR) := ⟨_, rfl⟩
        have AR2 := Lib.hid (fun w' hr => OB.out w' l hr)
        rw [HRR.out] at AR2 ⊢
        clear hK hne h6 hne6 h7 HJX HBX HK5 AR OB HRR
        generalize (begunS x).m = M at *
        generalize (begunS x).e = E at *
        generalize (begunS x).t = T at *
        go_enter Tryz.func26, Tryz.ntmps26
        go_wp2_with (first
          | (go_at_call 27; (with_reducible refine (H1.out _).mono ?_); rintro e1 w1 ⟨rfl, hb1⟩)
          | (go_at_call 47; (with_reducible refine (G1.out _).mono ?_); rintro e2 w2 ⟨rfl, hb2⟩; obtain ⟨hres, hl2, hbw⟩ := res_block hb1 hb2; have hr2 := HR.out.below hbw; obtain ⟨r0, r1⟩ := two_of (HBK.out _ hr2); have rf := free_of (HBK.out _ hr2) 1; have hrl2 : rb < w2.heap.size := (by omega); have hr3 := HNX.out _ hr2 h5; have hc2 := ((Chg.of_below (X := (· = rb)) hbw).setCell (p := ⟨rb, 1, none⟩) (.inl rfl) (.int .i64 ((P : Int) + 1))))
          | (go_at_call 49; (with_reducible refine (AR2.out _ (hr3.below ((Below.refl _ _).alloc (Nat.le_refl _) _))).mono ?_); rintro e3 w3 ⟨k, m, e', t, an, nn, cn, ai, ni, ci, rfl, hR3, hc3, hJ3⟩; have HJ3 := Lib.hid hJ3; clear hJ3; have hres3 := (hc3.block w.heap.size (by simp [size_set]; omega) (by omega)).trans ((Below.heap_alloc _ _ _ (by simp [size_set]; omega)).trans ((Below.heap_setCell _ _ _ _ (by show w.heap.size ≠ rb; omega)).trans hres)); obtain ⟨z0, z1, z2, z3, z4, z5⟩ := six_of hres3; have f0 := free_of hres3 0; have f1 := free_of hres3 1; have f2 := free_of hres3 2; have f3 := free_of hres3 3; have f4 := free_of hres3 4; have f5 := free_of hres3 5))
        refine bodyPost_ret (v := .tuple #[.agg #[.int .i64 k, .int .i64 m, .int .i64 e', .string t, .slice an nn cn, .slice ai ni ci], .int .i64 RR.er]) (by simp [results, Tryz.results26, go_sem, z0, z1, z2, z3, z4, z5]) rfl ?_
        have hcc := (hc2.alloc _).trans hc3
        exact vret_fin2 (base := w2.heap.size + 1) hcc hR3 (Nat.le_refl _) (by omega) hrl htl rfl (fun h0 => (HJ3.out h0).keep (fun b hb _ => by simp [size_set] at hb; exact hb) (fun _ _ _ => rfl) (Nat.le_refl _)) _ _ _ _ _ _
      · rw [if_neg h7]
        have hne7 : ((begunS x).k == 7) = false := by simpa using h7
        obtain ⟨RR, HRR⟩ : ∃ RR : R, Hid ((⟨0, begunS x, l⟩ : R) = RR) := ⟨_, rfl⟩
        rw [HRR.out]
        have HRJ : Hid (RR.j = begunS x ∧ RR.er = 0 ∧ RR.l = l) := by rw [← HRR.out]; exact ⟨rfl, rfl, rfl⟩
        have HJR : Hid (∀ (S : Nat → Prop) (w : World), JAt S w (n + 1) (.agg #[.int .i64 (begunS x).k, .int .i64 (begunS x).m, .int .i64 (begunS x).e, .string ⟨(begunS x).t.toArray⟩, .slice none 0 0, .slice none 0 0]) RR.j) := fun S w => by rw [HRJ.out.1]; exact HJX.out S w
        clear hK h6 h7 HBX HK5 AR OB HRR HJX
        generalize (begunS x).k = K at *
        generalize (begunS x).m = M at *
        generalize (begunS x).e = E at *
        generalize (begunS x).t = T at *
        go_enter Tryz.func26, Tryz.ntmps26
        go_wp2_with (first
          | (go_at_call 27; (with_reducible refine (H1.out _).mono ?_); rintro e1 w1 ⟨rfl, hb1⟩)
          | (go_at_call 47; (with_reducible refine (G1.out _).mono ?_); rintro e2 w2 ⟨rfl, hb2⟩; obtain ⟨hres, hl2, hbw⟩ := res_block hb1 hb2; have hr2 := HR.out.below hbw; obtain ⟨r0, r1⟩ := two_of (HBK.out _ hr2); have rf := free_of (HBK.out _ hr2) 1; have hrl2 : rb < w2.heap.size := (by omega); have hr3 := HNX.out _ hr2 h5; have hc2 := ((Chg.of_below (X := (· = rb)) hbw).setCell (p := ⟨rb, 1, none⟩) (.inl rfl) (.int .i64 ((P : Int) + 1))); obtain ⟨z0, z1, z2, z3, z4, z5⟩ := six_of hres; have f0 := free_of hres 0; have f1 := free_of hres 1; have f2 := free_of hres 2; have f3 := free_of hres 3; have f4 := free_of hres 4; have f5 := free_of hres 5; have hrn : rb ≠ w.heap.size := (by omega)))
        refine bodyPost_ret (v := .tuple #[.agg #[.int .i64 K, .int .i64 M, .int .i64 E, .string ⟨T.toArray⟩, .slice none 0 0, .slice none 0 0], .int .i64 0]) (by simp [results, Tryz.results26, go_sem, cell_alloc_old, size_set, hl2, hrn, hrn.symm, z0, z1, z2, z3, z4, z5]) rfl ?_
        refine (vret_fin2 (base := w.heap.size + 1) hc2 (by rw [HRJ.out.2.2]; exact hr3) (Nat.le_refl _) (by omega) hrl htl HRJ.out.2.1 (fun _ => HJR.out _ _) _ _ _ _ _ _).alloc _
end Go.Proofs.YtmlpefpjemiccaaGreatDoor.Js
