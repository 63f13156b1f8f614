import Derived.Test.YtnpbkjmlmdpggaaKq
import Derived.Test.YtnpbkjmlmdpggaaKp
/- The document's Right of layer 8: out of o/XR8b. -/
set_option linter.unusedVariables false
set_option linter.unusedSimpArgs false
namespace Go.Proofs.Ytnpbkjmlmdpggaa.Od
open Go.RowKit Js Lex
theorem odd_is (s : Int) : (Int.tmod s 2 != 0) = !(decide (s % 2 = 0)) := by
  have h : Int.tmod s 2 = 0 ↔ s % 2 = 0 := ⟨fun h => Int.emod_eq_zero_of_dvd (Int.dvd_of_tmod_eq_zero h), fun h => Int.tmod_eq_zero_of_dvd (Int.dvd_of_emod_eq_zero h)⟩
  by_cases e : s % 2 = 0
  · rw [h.2 e]; simp [e]
  · have := fun x => e (h.1 x)
    rw [decide_eq_false e]; simpa using this
theorem rname8_l (l : List UInt8) (w : World) (h : l.length ≤ 140737488355328) : Calls Try.prog 49 #[.string ⟨l.toArray⟩] w (fun e w' => e = .returned (.bool (Tp.nameB l)) ∧ w = w') := Tp.rname_l l w (by omega)
theorem head_getD (l : List St) : l.headD st0 = l.getD 0 st0 := by cases l <;> rfl
def prevB (ns : List St) (k : Nat) : Bool := if k = 0 then true else (ns.getD (k - 1) st0).rel
theorem prevB_next (ns : List St) (k : Nat) : prevB ns (k + 1) = (ns.getD k st0).rel := by unfold prevB; rw [if_neg (by omega)]; rfl
set_option maxHeartbeats 16000000 in
set_option maxRecDepth 100000 in
theorem rright8_any (S : Nat → Prop) (v : Value) (x : O) (w : World) (h : OAt S w v x) : Calls Try.prog 35 #[v] w (Ret (.bool (rightO Tp.nameB x)) w) := by
  obtain ⟨an, cn, ae, ce, rfl, -, hv, -, -, hN, hE⟩ := h.open_
  obtain ⟨hd, nm, oi, ui, ns, es⟩ := x
  simp only at hN hE hv ⊢
  obtain ⟨-, -, l1⟩ := hN.len
  obtain ⟨-, -, l2⟩ := hE.len
  have HN := Lib.hid hN
  have HE := Lib.hid hE
  have NM := Lib.hid (fun (w' : World) => rname8_l nm w' (by omega))
  have N0 := Lib.hid (fun (w' : World) => rnum8_any hd w')
  have N1 := Lib.hid (fun (w' : World) => rnum8_any oi w')
  have N2 := Lib.hid (fun (w' : World) => rnum8_any ui w')
  obtain ⟨n, HL1⟩ : ∃ n, Hid (ns.length = n) := ⟨_, rfl⟩
  obtain ⟨m, HL2⟩ : ∃ m, Hid (es.length = m) := ⟨_, rfl⟩
  obtain ⟨R, hR⟩ : ∃ R, rightO Tp.nameB ⟨hd, nm, oi, ui, ns, es⟩ = R := ⟨_, rfl⟩
  obtain ⟨NB, HNB⟩ : ∃ r, Hid (nodesB (ns.getD 0 st0).seq true ns = r) := ⟨_, rfl⟩
  obtain ⟨EB, HEB⟩ : ∃ r, Hid (edgesB es ns = r) := ⟨_, rfl⟩
  have HR : Hid (R = (Tp.nameB nm && (numB hd && (numB oi && (numB ui && (decide (1 ≤ n) && (decide (n ≤ 64) && (decide (m + 1 = n) && (decide ((ns.getD 0 st0).seq % 2 = 0) && ((ns.getD 0 st0).rel && (NB && EB))))))))))) := by
    show _ = _
    rw [← hR, ← HNB.out, ← HEB.out, ← HL1.out, ← HL2.out]
    unfold rightO
    simp only [head_getD]
  rw [hR]
  rw [HL1.out] at HN l1 ⊢
  rw [HL2.out] at HE l2 ⊢
  clear hR h hN hE hv
  generalize Tp.nameB nm = M at *
  generalize (⟨nm.toArray⟩ : ByteArray) = sv at *
  generalize numB hd = q0 at *
  generalize numB oi = q1 at *
  generalize numB ui = q2 at *
  have HB1 := Lib.hid (belowOne w (.cells #[.int .i64 hd, .string sv, .int .i64 oi, .int .i64 ui, .slice an n cn, .slice ae m ce] 25))
  have HX1 := Lib.hid (heap_alloc_new w (.cells #[.int .i64 hd, .string sv, .int .i64 oi, .int .i64 ui, .slice an n cn, .slice ae m ce] 25))
  cases M with
  | false =>
    have hR : R = false := by rw [HR.out]; simp
    subst hR
    clear HR
    go_enter Try.func35, Try.ntmps35
    go_wp2_with (first
      | (go_at_call 49; (with_reducible refine (NM.out _).mono ?_); rintro e1 w1 ⟨rfl, rfl⟩)
      | (go_at_call 50; (with_reducible refine (N0.out _).mono ?_); rintro e1 w1 ⟨rfl, rfl⟩)
      | (go_at_call 50; (with_reducible refine (N1.out _).mono ?_); rintro e1 w1 ⟨rfl, rfl⟩)
      | (go_at_call 50; (with_reducible refine (N2.out _).mono ?_); rintro e1 w1 ⟨rfl, rfl⟩))
    go_ret
    exact ⟨rfl, HB1.out⟩
  | true =>
    cases q0 with
    | false =>
      have hR : R = false := by rw [HR.out]; simp
      subst hR
      clear HR
      go_enter Try.func35, Try.ntmps35
      go_wp2_with (first
        | (go_at_call 49; (with_reducible refine (NM.out _).mono ?_); rintro e1 w1 ⟨rfl, rfl⟩)
        | (go_at_call 50; (with_reducible refine (N0.out _).mono ?_); rintro e1 w1 ⟨rfl, rfl⟩)
        | (go_at_call 50; (with_reducible refine (N1.out _).mono ?_); rintro e1 w1 ⟨rfl, rfl⟩)
        | (go_at_call 50; (with_reducible refine (N2.out _).mono ?_); rintro e1 w1 ⟨rfl, rfl⟩))
      go_ret
      exact ⟨rfl, HB1.out⟩
    | true =>
      cases q1 with
      | false =>
        have hR : R = false := by rw [HR.out]; simp
        subst hR
        clear HR
        go_enter Try.func35, Try.ntmps35
        go_wp2_with (first
          | (go_at_call 49; (with_reducible refine (NM.out _).mono ?_); rintro e1 w1 ⟨rfl, rfl⟩)
          | (go_at_call 50; (with_reducible refine (N0.out _).mono ?_); rintro e1 w1 ⟨rfl, rfl⟩)
          | (go_at_call 50; (with_reducible refine (N1.out _).mono ?_); rintro e1 w1 ⟨rfl, rfl⟩)
          | (go_at_call 50; (with_reducible refine (N2.out _).mono ?_); rintro e1 w1 ⟨rfl, rfl⟩))
        go_ret
        exact ⟨rfl, HB1.out⟩
      | true =>
        cases q2 with
        | false =>
          have hR : R = false := by rw [HR.out]; simp
          subst hR
          clear HR
          go_enter Try.func35, Try.ntmps35
          go_wp2_with (first
            | (go_at_call 49; (with_reducible refine (NM.out _).mono ?_); rintro e1 w1 ⟨rfl, rfl⟩)
            | (go_at_call 50; (with_reducible refine (N0.out _).mono ?_); rintro e1 w1 ⟨rfl, rfl⟩)
            | (go_at_call 50; (with_reducible refine (N1.out _).mono ?_); rintro e1 w1 ⟨rfl, rfl⟩)
            | (go_at_call 50; (with_reducible refine (N2.out _).mono ?_); rintro e1 w1 ⟨rfl, rfl⟩))
          go_ret
          exact ⟨rfl, HB1.out⟩
        | true =>
          by_cases g1 : (n : Int) < 1
          · have g1' : ¬ 1 ≤ n := by omega
            have hR : R = false := by rw [HR.out, decide_eq_false g1']; simp
            subst hR
            clear HR
            go_enter Try.func35, Try.ntmps35
            go_wp2_with (first
              | (go_at_call 49; (with_reducible refine (NM.out _).mono ?_); rintro e1 w1 ⟨rfl, rfl⟩)
              | (go_at_call 50; (with_reducible refine (N0.out _).mono ?_); rintro e1 w1 ⟨rfl, rfl⟩)
              | (go_at_call 50; (with_reducible refine (N1.out _).mono ?_); rintro e1 w1 ⟨rfl, rfl⟩)
              | (go_at_call 50; (with_reducible refine (N2.out _).mono ?_); rintro e1 w1 ⟨rfl, rfl⟩))
            go_ret
            exact ⟨rfl, HB1.out⟩
          by_cases g2 : (64 : Int) < (n : Int)
          · have g2' : ¬ n ≤ 64 := by omega
            have hR : R = false := by rw [HR.out, decide_eq_false g2']; simp
            subst hR
            clear HR
            go_enter Try.func35, Try.ntmps35
            go_wp2_with (first
              | (go_at_call 49; (with_reducible refine (NM.out _).mono ?_); rintro e1 w1 ⟨rfl, rfl⟩)
              | (go_at_call 50; (with_reducible refine (N0.out _).mono ?_); rintro e1 w1 ⟨rfl, rfl⟩)
              | (go_at_call 50; (with_reducible refine (N1.out _).mono ?_); rintro e1 w1 ⟨rfl, rfl⟩)
              | (go_at_call 50; (with_reducible refine (N2.out _).mono ?_); rintro e1 w1 ⟨rfl, rfl⟩))
            go_ret
            exact ⟨rfl, HB1.out⟩
          by_cases g3 : (m : Int) = (n : Int) - 1
          rotate_left
          · have g3' : ¬ m + 1 = n := by omega
            have g4 : ((m : Int) != (n : Int) - 1) = true := by simpa using g3
            have hR : R = false := by rw [HR.out, decide_eq_false g3']; simp
            subst hR
            clear HR
            go_enter Try.func35, Try.ntmps35
            go_wp2_with (first
              | (go_at_call 49; (with_reducible refine (NM.out _).mono ?_); rintro e1 w1 ⟨rfl, rfl⟩)
              | (go_at_call 50; (with_reducible refine (N0.out _).mono ?_); rintro e1 w1 ⟨rfl, rfl⟩)
              | (go_at_call 50; (with_reducible refine (N1.out _).mono ?_); rintro e1 w1 ⟨rfl, rfl⟩)
              | (go_at_call 50; (with_reducible refine (N2.out _).mono ?_); rintro e1 w1 ⟨rfl, rfl⟩))
            go_ret
            exact ⟨rfl, HB1.out⟩
          have j3 : ((m : Int) != (n : Int) - 1) = false := by simpa using g3
          have g3' : m + 1 = n := by omega
          have j4 : (0 : Int) < (n : Int) := by omega
          obtain ⟨b, off, rfl, -, hb, -, x0, x1, x2⟩ := HN.out.at_ (k := 0) (by rw [HL1.out]; omega)
          simp only [Nat.zero_mul, Nat.add_zero] at x0 x1 x2
          have HC0 := Lib.hid (And.intro x0 (And.intro x1 x2))
          rw [← HB1.out.cell (p := ⟨b, _, none⟩) hb] at x0 x1 x2
          have ODD := odd_is (ns.getD 0 st0).seq
          rw [decide_eq_true (show 1 ≤ n by omega), decide_eq_true (show n ≤ 64 by omega), decide_eq_true g3'] at HR
          simp only [Bool.true_and] at HR
          obtain ⟨s0, HS0⟩ : ∃ s, Hid (ns.getD 0 st0 = s) := ⟨_, rfl⟩
          rw [HS0.out] at x0 x1 x2 HR HNB ODD HC0
          by_cases g5 : s0.seq % 2 = 0
          rotate_left
          · rw [decide_eq_false g5] at ODD
            have g5' := g5
            have hR : R = false := by rw [HR.out, decide_eq_false g5']; simp
            subst hR
            clear HR
            go_enter Try.func35, Try.ntmps35
            go_wp2_with (first
              | (go_at_call 49; (with_reducible refine (NM.out _).mono ?_); rintro e1 w1 ⟨rfl, rfl⟩)
              | (go_at_call 50; (with_reducible refine (N0.out _).mono ?_); rintro e1 w1 ⟨rfl, rfl⟩)
              | (go_at_call 50; (with_reducible refine (N1.out _).mono ?_); rintro e1 w1 ⟨rfl, rfl⟩)
              | (go_at_call 50; (with_reducible refine (N2.out _).mono ?_); rintro e1 w1 ⟨rfl, rfl⟩))
            go_ret
            exact ⟨rfl, HB1.out⟩
          rw [decide_eq_true g5] at ODD HR
          simp only [Bool.true_and, Bool.not_true] at HR ODD
          obtain ⟨i0, sq0, r0⟩ := s0
          simp only at x0 x1 x2 HR ODD HNB HC0
          cases r0 with
          | false =>
            have hR : R = false := by rw [HR.out]; simp
            subst hR
            clear HR
            go_enter Try.func35, Try.ntmps35
            go_wp2_with (first
              | (go_at_call 49; (with_reducible refine (NM.out _).mono ?_); rintro e1 w1 ⟨rfl, rfl⟩)
              | (go_at_call 50; (with_reducible refine (N0.out _).mono ?_); rintro e1 w1 ⟨rfl, rfl⟩)
              | (go_at_call 50; (with_reducible refine (N1.out _).mono ?_); rintro e1 w1 ⟨rfl, rfl⟩)
              | (go_at_call 50; (with_reducible refine (N2.out _).mono ?_); rintro e1 w1 ⟨rfl, rfl⟩))
            go_ret
            exact ⟨rfl, HB1.out⟩
          | true =>
            simp only [Bool.true_and] at HR
            go_enter Try.func35, Try.ntmps35
            go_upto_region 6 with (first
              | (go_at_call 49; (with_reducible refine (NM.out _).mono ?_); rintro e1 w1 ⟨rfl, rfl⟩)
              | (go_at_call 50; (with_reducible refine (N0.out _).mono ?_); rintro e1 w1 ⟨rfl, rfl⟩)
              | (go_at_call 50; (with_reducible refine (N1.out _).mono ?_); rintro e1 w1 ⟨rfl, rfl⟩)
              | (go_at_call 50; (with_reducible refine (N2.out _).mono ?_); rintro e1 w1 ⟨rfl, rfl⟩))
            generalize w.alloc (.cells #[.int .i64 hd, .string sv, .int .i64 oi, .int .i64 ui, .slice (some ⟨b, off, none⟩) n cn, .slice ae m ce] 25) = w1 at *
            have HSEQ : Hid (numB sq0 = true → 0 ≤ sq0 ∧ sq0 ≤ 1000000000) := fun h => numB_iff h
            clear NM N0 N1 N2 x0 x1 x2
            go_loopw [5] (fun i wr => ∃ k : Nat, k ≤ n ∧ i = .int .i64 k ∧ Hid (Below w1.heap.size w1 wr) ∧ Hid (NB = nodesB (sq0 + 2 * (k : Int)) (prevB ns k) (ns.drop k)) ∧ (k = 0 ∨ numB sq0 = true)) (fun i _ => n - (intOf i).toNat)
            case atStart => exact ⟨0, Nat.zero_le _, rfl, Below.refl _ _, by show _ = _; rw [← HNB.out]; simp [prevB], .inl rfl⟩
            case round =>
              obtain ⟨k, hk, rfl, HB, HK, hk0⟩ := hrel
              obtain ⟨y0, y1, y2, y3, y4, y5⟩ := six_of ((HB.out.block _ (Own.block_lt HX1.out)).trans HX1.out)
              have HBW := Lib.hid (HB1.out.trans (HB.out.mono HB1.out.size))
              obtain ⟨x0, x1, x2⟩ := HC0.out
              rw [← HBW.out.cell (p := ⟨b, _, none⟩) hb] at x0 x1 x2
              have hbr : b < wr.heap.size := Nat.lt_of_lt_of_le hb HBW.out.size
              have hxr : w.heap.size < wr.heap.size := Nat.lt_of_lt_of_le (Own.block_lt HX1.out) HB.out.size
              by_cases hlt : k < n
              · have HS := Lib.hid (nodesB_step (q := sq0 + 2 * (k : Int)) (p := prevB ns k) (l := ns) (k := k) (by rw [HL1.out]; exact hlt))
                cases k with
                | zero =>
                  have hp : prevB ns 0 = true := rfl
                  rw [HS0.out, hp] at HS
                  rw [hp] at HK
                  simp only at HS
                  have P1 := Lib.hid (fun (w' : World) => (rnum8_any i0 w').mono (fun _ _ h => And.intro h.1 h.2.symm))
                  have P2 := Lib.hid (fun (w' : World) => (rnum8_any sq0 w').mono (fun _ _ h => And.intro h.1 h.2.symm))
                  have hz : ((0 : Nat) : Int) = 0 := rfl
                  obtain ⟨c1, hc1⟩ : ∃ c, numB i0 = c := ⟨_, rfl⟩
                  obtain ⟨c2, hc2⟩ : ∃ c, numB sq0 = c := ⟨_, rfl⟩
                  rw [hc1] at P1 HS
                  rw [hc2] at P2 HS
                  have HC2 := Lib.hid hc2
                  clear hc1 hc2 HN HE HC0
                  cases c1 with
                  | false =>
                    have hR : R = false := by rw [HR.out, HK.out, HS.out]; simp []
                    subst hR
                    go_wp2_with fail
                    have hal := heap_alloc_new wr (.cells #[.int .i64 i0, .int .i64 sq0, .bool true] 52)
                    have hbl := belowOne wr (.cells #[.int .i64 i0, .int .i64 sq0, .bool true] 52)
                    generalize wr.alloc (.cells #[.int .i64 i0, .int .i64 sq0, .bool true] 52) = w3 at *
                    have t0 : w3.cell? ⟨wr.heap.size, 0, none⟩ = some (.int .i64 i0) := cell_of_row _ _ _ _ _ _ hal
                    have t1 : w3.cell? ⟨wr.heap.size, 1, none⟩ = some (.int .i64 sq0) := cell_of_row _ _ _ _ _ _ hal
                    have t2 : w3.cell? ⟨wr.heap.size, 2, none⟩ = some (.bool true) := cell_of_row _ _ _ _ _ _ hal
                    rw [← hbl.cell (p := ⟨b, _, none⟩) hbr] at x0 x1 x2
                    rw [← hbl.cell (p := ⟨w.heap.size, _, none⟩) hxr] at y0 y1 y2 y3 y4 y5
                    clear hal
                    go_quiet ((first | (go_at_call 50; refine Calls.quiet_of_same (P1.out _)) | (go_at_call 50; refine Calls.quiet_of_same (P2.out _))))
                    go_wp2_with fail
                    go_ret
                    exact ⟨rfl, HBW.out.trans ((below_drewN hbl _).mono HBW.out.size)⟩
                  | true =>
                    cases c2 with
                    | false =>
                      have hR : R = false := by rw [HR.out, HK.out, HS.out]; simp []
                      subst hR
                      go_wp2_with fail
                      have hal := heap_alloc_new wr (.cells #[.int .i64 i0, .int .i64 sq0, .bool true] 52)
                      have hbl := belowOne wr (.cells #[.int .i64 i0, .int .i64 sq0, .bool true] 52)
                      generalize wr.alloc (.cells #[.int .i64 i0, .int .i64 sq0, .bool true] 52) = w3 at *
                      have t0 : w3.cell? ⟨wr.heap.size, 0, none⟩ = some (.int .i64 i0) := cell_of_row _ _ _ _ _ _ hal
                      have t1 : w3.cell? ⟨wr.heap.size, 1, none⟩ = some (.int .i64 sq0) := cell_of_row _ _ _ _ _ _ hal
                      have t2 : w3.cell? ⟨wr.heap.size, 2, none⟩ = some (.bool true) := cell_of_row _ _ _ _ _ _ hal
                      rw [← hbl.cell (p := ⟨b, _, none⟩) hbr] at x0 x1 x2
                      rw [← hbl.cell (p := ⟨w.heap.size, _, none⟩) hxr] at y0 y1 y2 y3 y4 y5
                      clear hal
                      go_quiet ((first | (go_at_call 50; refine Calls.quiet_of_same (P1.out _)) | (go_at_call 50; refine Calls.quiet_of_same (P2.out _))))
                      go_wp2_with fail
                      go_ret
                      exact ⟨rfl, HBW.out.trans ((below_drewN hbl _).mono HBW.out.size)⟩
                    | true =>
                      have hnx := Lib.hid (prevB_next ns 0)
                      rw [HS0.out] at hnx
                      have w3 : IntKind.i64.wrap sq0 = sq0 := by have := HSEQ.out HC2.out; rw [IntKind.wrap_i64]; omega
                      have z0 : (sq0 != sq0) = false := by simp
                      go_wp2_with fail
                      have hal := heap_alloc_new wr (.cells #[.int .i64 i0, .int .i64 sq0, .bool true] 52)
                      have hbl := belowOne wr (.cells #[.int .i64 i0, .int .i64 sq0, .bool true] 52)
                      generalize wr.alloc (.cells #[.int .i64 i0, .int .i64 sq0, .bool true] 52) = w3 at *
                      have t0 : w3.cell? ⟨wr.heap.size, 0, none⟩ = some (.int .i64 i0) := cell_of_row _ _ _ _ _ _ hal
                      have t1 : w3.cell? ⟨wr.heap.size, 1, none⟩ = some (.int .i64 sq0) := cell_of_row _ _ _ _ _ _ hal
                      have t2 : w3.cell? ⟨wr.heap.size, 2, none⟩ = some (.bool true) := cell_of_row _ _ _ _ _ _ hal
                      rw [← hbl.cell (p := ⟨b, _, none⟩) hbr] at x0 x1 x2
                      rw [← hbl.cell (p := ⟨w.heap.size, _, none⟩) hxr] at y0 y1 y2 y3 y4 y5
                      clear hal
                      go_quiet ((first | (go_at_call 50; refine Calls.quiet_of_same (P1.out _)) | (go_at_call 50; refine Calls.quiet_of_same (P2.out _))))
                      go_wp2_with fail
                      go_roundw
                      case rel => exact ⟨1, by omega, by go_num, HB.out.trans ((below_drewN hbl _).mono HB.out.size), by show _ = _; rw [HK.out, HS.out, hnx.out]; simp, .inr HC2.out⟩
                      case measure => simp [intOf] <;> omega
                | succ j =>
                  have hsq : numB sq0 = true := by
                    rcases hk0 with h | h
                    · cases h
                    · exact h
                  obtain ⟨s1, s2⟩ := HSEQ.out hsq
                  obtain ⟨b', off', e1, -, -, -, u0, u1, u2⟩ := HN.out.at_ (k := j + 1) (by rw [HL1.out]; exact hlt)
                  cases e1
                  obtain ⟨b', off', e1, -, -, -, z0, z1, z2⟩ := HN.out.at_ (k := j) (by rw [HL1.out]; omega)
                  cases e1
                  rw [← HBW.out.cell (p := ⟨b, _, none⟩) hb] at u0 u1 u2 z0 z1 z2
                  rw [prevB_next] at HS HK
                  have hnx := Lib.hid (prevB_next ns (j + 1))
                  have i1 : ((j : Nat) : Int) + 1 < (n : Int) := by omega
                  have i2 : ((j : Nat) : Int) < (n : Int) := by omega
                  have i3 : (((j : Nat) : Int) + 1).toNat = j + 1 := by omega
                  have i4 : ¬ ((j : Nat) : Int) + 1 < 0 := by omega
                  have i5 : (0 : Int) ≤ ((j : Nat) : Int) + 1 := by omega
                  have i6 : (0 : Int) < ((j : Nat) : Int) + 1 := by omega
                  have i7 : ((j : Nat) : Int) + 1 - 1 = (j : Int) := by omega
                  have w4 : IntKind.i64.wrap (((j : Nat) : Int) + 1 - 1) = (j : Int) := by rw [IntKind.wrap_i64]; omega
                  have w5 : IntKind.i64.wrap (((j : Nat) : Int) + 1 + 1) = (j : Int) + 1 + 1 := by rw [IntKind.wrap_i64]; omega
                  have w2 : IntKind.i64.wrap (2 * (((j : Nat) : Int) + 1)) = 2 * ((j : Int) + 1) := by rw [IntKind.wrap_i64]; omega
                  have w3 : IntKind.i64.wrap (sq0 + 2 * (((j : Nat) : Int) + 1)) = sq0 + 2 * ((j : Int) + 1) := by rw [IntKind.wrap_i64]; omega
                  have hcst : (((j + 1 : Nat)) : Int) = (j : Int) + 1 := by omega
                  rw [hcst] at HS HK
                  generalize ns.getD (j + 1) st0 = X at *
                  generalize ns.getD j st0 = Y at *
                  obtain ⟨xi, xq, xr⟩ := X
                  obtain ⟨yi, yq, yr⟩ := Y
                  simp only at u0 u1 u2 z0 z1 z2 HS hnx
                  have P1 := Lib.hid (fun (w' : World) => (rnum8_any xi w').mono (fun _ _ h => And.intro h.1 h.2.symm))
                  have P2 := Lib.hid (fun (w' : World) => (rnum8_any xq w').mono (fun _ _ h => And.intro h.1 h.2.symm))
                  generalize numB xi = c1 at *
                  generalize numB xq = c2 at *
                  clear HN HE HC0
                  cases c1 with
                  | false =>
                    have hR : R = false := by rw [HR.out, HK.out, HS.out]; simp []
                    subst hR
                    go_wp2_with fail
                    have hal := heap_alloc_new wr (.cells #[.int .i64 xi, .int .i64 xq, .bool xr] 52)
                    have hbl := belowOne wr (.cells #[.int .i64 xi, .int .i64 xq, .bool xr] 52)
                    generalize wr.alloc (.cells #[.int .i64 xi, .int .i64 xq, .bool xr] 52) = w3 at *
                    have t0 : w3.cell? ⟨wr.heap.size, 0, none⟩ = some (.int .i64 xi) := cell_of_row _ _ _ _ _ _ hal
                    have t1 : w3.cell? ⟨wr.heap.size, 1, none⟩ = some (.int .i64 xq) := cell_of_row _ _ _ _ _ _ hal
                    have t2 : w3.cell? ⟨wr.heap.size, 2, none⟩ = some (.bool xr) := cell_of_row _ _ _ _ _ _ hal
                    rw [← hbl.cell (p := ⟨b, _, none⟩) hbr] at x0 x1 x2 z0 z1 z2 u0 u1 u2
                    rw [← hbl.cell (p := ⟨w.heap.size, _, none⟩) hxr] at y0 y1 y2 y3 y4 y5
                    clear hal
                    go_quiet ((first | (go_at_call 50; refine Calls.quiet_of_same (P1.out _)) | (go_at_call 50; refine Calls.quiet_of_same (P2.out _))))
                    go_wp2_with fail
                    go_ret
                    exact ⟨rfl, HBW.out.trans ((below_drewN hbl _).mono HBW.out.size)⟩
                  | true =>
                    cases c2 with
                    | false =>
                      have hR : R = false := by rw [HR.out, HK.out, HS.out]; simp []
                      subst hR
                      go_wp2_with fail
                      have hal := heap_alloc_new wr (.cells #[.int .i64 xi, .int .i64 xq, .bool xr] 52)
                      have hbl := belowOne wr (.cells #[.int .i64 xi, .int .i64 xq, .bool xr] 52)
                      generalize wr.alloc (.cells #[.int .i64 xi, .int .i64 xq, .bool xr] 52) = w3 at *
                      have t0 : w3.cell? ⟨wr.heap.size, 0, none⟩ = some (.int .i64 xi) := cell_of_row _ _ _ _ _ _ hal
                      have t1 : w3.cell? ⟨wr.heap.size, 1, none⟩ = some (.int .i64 xq) := cell_of_row _ _ _ _ _ _ hal
                      have t2 : w3.cell? ⟨wr.heap.size, 2, none⟩ = some (.bool xr) := cell_of_row _ _ _ _ _ _ hal
                      rw [← hbl.cell (p := ⟨b, _, none⟩) hbr] at x0 x1 x2 z0 z1 z2 u0 u1 u2
                      rw [← hbl.cell (p := ⟨w.heap.size, _, none⟩) hxr] at y0 y1 y2 y3 y4 y5
                      clear hal
                      go_quiet ((first | (go_at_call 50; refine Calls.quiet_of_same (P1.out _)) | (go_at_call 50; refine Calls.quiet_of_same (P2.out _))))
                      go_wp2_with fail
                      go_ret
                      exact ⟨rfl, HBW.out.trans ((below_drewN hbl _).mono HBW.out.size)⟩
                    | true =>
                      by_cases he : xq = sq0 + 2 * ((j : Int) + 1)
                      · have z8 : (xq != sq0 + 2 * ((j : Int) + 1)) = false := by simpa using he
                        have HE8 : Hid ((xq == sq0 + 2 * ((j : Int) + 1)) = true) := by show _ = _; simpa using he
                        clear he
                        cases xr with
                        | false =>
                          go_wp2_with fail
                          have hal := heap_alloc_new wr (.cells #[.int .i64 xi, .int .i64 xq, .bool false] 52)
                          have hbl := belowOne wr (.cells #[.int .i64 xi, .int .i64 xq, .bool false] 52)
                          generalize wr.alloc (.cells #[.int .i64 xi, .int .i64 xq, .bool false] 52) = w3 at *
                          have t0 : w3.cell? ⟨wr.heap.size, 0, none⟩ = some (.int .i64 xi) := cell_of_row _ _ _ _ _ _ hal
                          have t1 : w3.cell? ⟨wr.heap.size, 1, none⟩ = some (.int .i64 xq) := cell_of_row _ _ _ _ _ _ hal
                          have t2 : w3.cell? ⟨wr.heap.size, 2, none⟩ = some (.bool false) := cell_of_row _ _ _ _ _ _ hal
                          rw [← hbl.cell (p := ⟨b, _, none⟩) hbr] at x0 x1 x2 z0 z1 z2 u0 u1 u2
                          rw [← hbl.cell (p := ⟨w.heap.size, _, none⟩) hxr] at y0 y1 y2 y3 y4 y5
                          clear hal
                          go_quiet ((first | (go_at_call 50; refine Calls.quiet_of_same (P1.out _)) | (go_at_call 50; refine Calls.quiet_of_same (P2.out _))))
                          go_wp2_with fail
                          go_roundw
                          case rel => exact ⟨j + 1 + 1, by omega, by go_num, HB.out.trans ((below_drewN hbl _).mono HB.out.size), by show _ = _; rw [HK.out, HS.out, hnx.out, HE8.out]; simp [show sq0 + 2 * ((j : Int) + 1 + 1) = sq0 + 2 * ((j : Int) + 1) + 2 by omega], .inr hsq⟩
                          case measure => simp [intOf] <;> omega
                        | true =>
                          cases yr with
                          | false =>
                            have hR : R = false := by rw [HR.out, HK.out, HS.out, HE8.out]; simp
                            subst hR
                            go_wp2_with fail
                            have hal := heap_alloc_new wr (.cells #[.int .i64 xi, .int .i64 xq, .bool true] 52)
                            have hbl := belowOne wr (.cells #[.int .i64 xi, .int .i64 xq, .bool true] 52)
                            generalize wr.alloc (.cells #[.int .i64 xi, .int .i64 xq, .bool true] 52) = w3 at *
                            have t0 : w3.cell? ⟨wr.heap.size, 0, none⟩ = some (.int .i64 xi) := cell_of_row _ _ _ _ _ _ hal
                            have t1 : w3.cell? ⟨wr.heap.size, 1, none⟩ = some (.int .i64 xq) := cell_of_row _ _ _ _ _ _ hal
                            have t2 : w3.cell? ⟨wr.heap.size, 2, none⟩ = some (.bool true) := cell_of_row _ _ _ _ _ _ hal
                            rw [← hbl.cell (p := ⟨b, _, none⟩) hbr] at x0 x1 x2 z0 z1 z2 u0 u1 u2
                            rw [← hbl.cell (p := ⟨w.heap.size, _, none⟩) hxr] at y0 y1 y2 y3 y4 y5
                            clear hal
                            go_quiet ((first | (go_at_call 50; refine Calls.quiet_of_same (P1.out _)) | (go_at_call 50; refine Calls.quiet_of_same (P2.out _))))
                            go_wp2_with fail
                            go_ret
                            exact ⟨rfl, HBW.out.trans ((below_drewN hbl _).mono HBW.out.size)⟩
                          | true =>
                            go_wp2_with fail
                            have hal := heap_alloc_new wr (.cells #[.int .i64 xi, .int .i64 xq, .bool true] 52)
                            have hbl := belowOne wr (.cells #[.int .i64 xi, .int .i64 xq, .bool true] 52)
                            generalize wr.alloc (.cells #[.int .i64 xi, .int .i64 xq, .bool true] 52) = w3 at *
                            have t0 : w3.cell? ⟨wr.heap.size, 0, none⟩ = some (.int .i64 xi) := cell_of_row _ _ _ _ _ _ hal
                            have t1 : w3.cell? ⟨wr.heap.size, 1, none⟩ = some (.int .i64 xq) := cell_of_row _ _ _ _ _ _ hal
                            have t2 : w3.cell? ⟨wr.heap.size, 2, none⟩ = some (.bool true) := cell_of_row _ _ _ _ _ _ hal
                            rw [← hbl.cell (p := ⟨b, _, none⟩) hbr] at x0 x1 x2 z0 z1 z2 u0 u1 u2
                            rw [← hbl.cell (p := ⟨w.heap.size, _, none⟩) hxr] at y0 y1 y2 y3 y4 y5
                            clear hal
                            go_quiet ((first | (go_at_call 50; refine Calls.quiet_of_same (P1.out _)) | (go_at_call 50; refine Calls.quiet_of_same (P2.out _))))
                            go_wp2_with fail
                            go_roundw
                            case rel => exact ⟨j + 1 + 1, by omega, by go_num, HB.out.trans ((below_drewN hbl _).mono HB.out.size), by show _ = _; rw [HK.out, HS.out, hnx.out, HE8.out]; simp [show sq0 + 2 * ((j : Int) + 1 + 1) = sq0 + 2 * ((j : Int) + 1) + 2 by omega], .inr hsq⟩
                            case measure => simp [intOf] <;> omega
                      · have z8 : (xq != sq0 + 2 * ((j : Int) + 1)) = true := by simpa using he
                        have HE8 : Hid ((xq == sq0 + 2 * ((j : Int) + 1)) = false) := by show _ = _; simpa using he
                        clear he
                        have hR : R = false := by rw [HR.out, HK.out, HS.out, HE8.out]; simp
                        subst hR
                        go_wp2_with fail
                        have hal := heap_alloc_new wr (.cells #[.int .i64 xi, .int .i64 xq, .bool xr] 52)
                        have hbl := belowOne wr (.cells #[.int .i64 xi, .int .i64 xq, .bool xr] 52)
                        generalize wr.alloc (.cells #[.int .i64 xi, .int .i64 xq, .bool xr] 52) = w3 at *
                        have t0 : w3.cell? ⟨wr.heap.size, 0, none⟩ = some (.int .i64 xi) := cell_of_row _ _ _ _ _ _ hal
                        have t1 : w3.cell? ⟨wr.heap.size, 1, none⟩ = some (.int .i64 xq) := cell_of_row _ _ _ _ _ _ hal
                        have t2 : w3.cell? ⟨wr.heap.size, 2, none⟩ = some (.bool xr) := cell_of_row _ _ _ _ _ _ hal
                        rw [← hbl.cell (p := ⟨b, _, none⟩) hbr] at x0 x1 x2 z0 z1 z2 u0 u1 u2
                        rw [← hbl.cell (p := ⟨w.heap.size, _, none⟩) hxr] at y0 y1 y2 y3 y4 y5
                        clear hal
                        go_quiet ((first | (go_at_call 50; refine Calls.quiet_of_same (P1.out _)) | (go_at_call 50; refine Calls.quiet_of_same (P2.out _))))
                        go_wp2_with fail
                        go_ret
                        exact ⟨rfl, HBW.out.trans ((below_drewN hbl _).mono HBW.out.size)⟩
              · obtain rfl : k = n := by omega
                have hNB : NB = true := by rw [HK.out, List.drop_of_length_le (by rw [HL1.out]; omega)]; rfl
                subst hNB
                simp only [Bool.true_and] at HR
                clear HK x0 x1 x2
                have i0 : ¬ (k : Int) < (k : Int) := by omega
                have HNUM : Hid (∀ q, q < k → numB (ns.getD q st0).seq = true) := fun q hq => (nodes_nums HNB.out _ (by
                  rw [List.getD_eq_getElem?_getD, List.getElem?_eq_getElem (show q < ns.length by rw [HL1.out]; exact hq)]
                  exact List.getElem_mem _)).2
                clear HBW y0 y1 y2 y3 y4 y5 hbr hxr hk0
                go_wp2_with fail
                go_loopw [7] (fun i wr => ∃ q : Nat, q ≤ m ∧ i = .int .i64 q ∧ Hid (Below w1.heap.size w1 wr) ∧ Hid (EB = edgesB (es.drop q) (ns.drop q))) (fun i _ => m - (intOf i).toNat)
                case atStart => exact ⟨0, Nat.zero_le _, rfl, HB, HEB.out.symm⟩
                case round =>
                  obtain ⟨q, hq, rfl, HB2, HK2⟩ := hrel
                  obtain ⟨y0, y1, y2, y3, y4, y5⟩ := six_of ((HB2.out.block _ (Own.block_lt HX1.out)).trans HX1.out)
                  have HBW := Lib.hid (HB1.out.trans (HB2.out.mono HB1.out.size))
                  have hbr : b < wr.heap.size := Nat.lt_of_lt_of_le hb HBW.out.size
                  have hxr : w.heap.size < wr.heap.size := Nat.lt_of_lt_of_le (Own.block_lt HX1.out) HB2.out.size
                  by_cases hlt : q < m
                  · have HS := Lib.hid (edgesB_step (es := es) (ns := ns) (k := q) (by rw [HL2.out]; exact hlt) (by rw [HL1.out]; omega))
                    obtain ⟨be, oe, rfl, -, hbe, -, u0, u1, u2⟩ := HE.out.at_ (k := q) (by rw [HL2.out]; exact hlt)
                    obtain ⟨b', off', e1, -, -, -, z0, z1, z2⟩ := HN.out.at_ (k := q) (by rw [HL1.out]; omega)
                    cases e1
                    obtain ⟨b', off', e1, -, -, -, v0, v1, v2⟩ := HN.out.at_ (k := q + 1) (by rw [HL1.out]; omega)
                    cases e1
                    rw [← HBW.out.cell (p := ⟨b, _, none⟩) hb] at z0 z1 z2 v0 v1 v2
                    rw [← HBW.out.cell (p := ⟨be, _, none⟩) hbe] at u0 u1 u2
                    have hnq := HNUM.out q (by omega)
                    have hnb := numB_iff hnq
                    have i1 : (q : Int) < (k : Int) - 1 := by omega
                    have i2 : (q : Int) < (m : Int) := by omega
                    have i3 : (q : Int) < (k : Int) := by omega
                    have i4 : (q : Int) + 1 < (k : Int) := by omega
                    have i5 : ((q : Int) + 1).toNat = q + 1 := by omega
                    have i6 : ¬ (q : Int) + 1 < 0 := by omega
                    have i7 : (0 : Int) ≤ (q : Int) + 1 := by omega
                    have w4 : IntKind.i64.wrap ((q : Int) + 1) = (q : Int) + 1 := by rw [IntKind.wrap_i64]; omega
                    generalize es.getD q st0 = E at *
                    generalize ns.getD q st0 = X at *
                    generalize ns.getD (q + 1) st0 = Y at *
                    obtain ⟨ei, eq, er⟩ := E
                    obtain ⟨xi, xq, xr⟩ := X
                    obtain ⟨yi, yq, yr⟩ := Y
                    simp only at u0 u1 u2 z0 z1 z2 v0 v1 v2 HS hnb
                    have w5 : IntKind.i64.wrap (xq + 1) = xq + 1 := by rw [IntKind.wrap_i64]; omega
                    have P1 := Lib.hid (fun (w' : World) => (rnum8_any ei w').mono (fun _ _ h => And.intro h.1 h.2.symm))
                    have P2 := Lib.hid (fun (w' : World) => (rnum8_any eq w').mono (fun _ _ h => And.intro h.1 h.2.symm))
                    generalize numB ei = c1 at *
                    generalize numB eq = c2 at *
                    clear HN HE HC0 HNUM HNB
                    cases c1 with
                    | false =>
                      have hR : R = false := by rw [HR.out, HK2.out, HS.out]; simp
                      subst hR
                      go_wp2_with fail
                      have hal := heap_alloc_new wr (.cells #[.int .i64 ei, .int .i64 eq, .bool er] 60)
                      have hbl := belowOne wr (.cells #[.int .i64 ei, .int .i64 eq, .bool er] 60)
                      generalize wr.alloc (.cells #[.int .i64 ei, .int .i64 eq, .bool er] 60) = w3 at *
                      have t0 : w3.cell? ⟨wr.heap.size, 0, none⟩ = some (.int .i64 ei) := cell_of_row _ _ _ _ _ _ hal
                      have t1 : w3.cell? ⟨wr.heap.size, 1, none⟩ = some (.int .i64 eq) := cell_of_row _ _ _ _ _ _ hal
                      have t2 : w3.cell? ⟨wr.heap.size, 2, none⟩ = some (.bool er) := cell_of_row _ _ _ _ _ _ hal
                      rw [← hbl.cell (p := ⟨b, _, none⟩) hbr] at z0 z1 z2 v0 v1 v2
                      rw [← hbl.cell (p := ⟨w.heap.size, _, none⟩) hxr] at y0 y1 y2 y3 y4 y5
                      clear hal u0 u1 u2
                      go_quiet ((first | (go_at_call 50; refine Calls.quiet_of_same (P1.out _)) | (go_at_call 50; refine Calls.quiet_of_same (P2.out _))))
                      go_wp2_with fail
                      go_ret
                      exact ⟨rfl, HBW.out.trans ((below_drewN hbl _).mono HBW.out.size)⟩
                    | true =>
                      cases c2 with
                      | false =>
                        have hR : R = false := by rw [HR.out, HK2.out, HS.out]; simp
                        subst hR
                        go_wp2_with fail
                        have hal := heap_alloc_new wr (.cells #[.int .i64 ei, .int .i64 eq, .bool er] 60)
                        have hbl := belowOne wr (.cells #[.int .i64 ei, .int .i64 eq, .bool er] 60)
                        generalize wr.alloc (.cells #[.int .i64 ei, .int .i64 eq, .bool er] 60) = w3 at *
                        have t0 : w3.cell? ⟨wr.heap.size, 0, none⟩ = some (.int .i64 ei) := cell_of_row _ _ _ _ _ _ hal
                        have t1 : w3.cell? ⟨wr.heap.size, 1, none⟩ = some (.int .i64 eq) := cell_of_row _ _ _ _ _ _ hal
                        have t2 : w3.cell? ⟨wr.heap.size, 2, none⟩ = some (.bool er) := cell_of_row _ _ _ _ _ _ hal
                        rw [← hbl.cell (p := ⟨b, _, none⟩) hbr] at z0 z1 z2 v0 v1 v2
                        rw [← hbl.cell (p := ⟨w.heap.size, _, none⟩) hxr] at y0 y1 y2 y3 y4 y5
                        clear hal u0 u1 u2
                        go_quiet ((first | (go_at_call 50; refine Calls.quiet_of_same (P1.out _)) | (go_at_call 50; refine Calls.quiet_of_same (P2.out _))))
                        go_wp2_with fail
                        go_ret
                        exact ⟨rfl, HBW.out.trans ((below_drewN hbl _).mono HBW.out.size)⟩
                      | true =>
                        by_cases he : eq = xq + 1
                        · have z8 : (eq != xq + 1) = false := by simpa using he
                          have HE8 : Hid ((eq == xq + 1) = true) := by show _ = _; simpa using he
                          clear he
                          by_cases hr : er = yr
                          · have z9 : (er != yr) = false := by simpa using hr
                            have z10 : (!(er == yr)) = false := by simpa using hr
                            have HE9 : Hid ((er == yr) = true) := by show _ = _; simpa using hr
                            clear hr
                            go_wp2_with fail
                            have hal := heap_alloc_new wr (.cells #[.int .i64 ei, .int .i64 eq, .bool er] 60)
                            have hbl := belowOne wr (.cells #[.int .i64 ei, .int .i64 eq, .bool er] 60)
                            generalize wr.alloc (.cells #[.int .i64 ei, .int .i64 eq, .bool er] 60) = w3 at *
                            have t0 : w3.cell? ⟨wr.heap.size, 0, none⟩ = some (.int .i64 ei) := cell_of_row _ _ _ _ _ _ hal
                            have t1 : w3.cell? ⟨wr.heap.size, 1, none⟩ = some (.int .i64 eq) := cell_of_row _ _ _ _ _ _ hal
                            have t2 : w3.cell? ⟨wr.heap.size, 2, none⟩ = some (.bool er) := cell_of_row _ _ _ _ _ _ hal
                            rw [← hbl.cell (p := ⟨b, _, none⟩) hbr] at z0 z1 z2 v0 v1 v2
                            rw [← hbl.cell (p := ⟨w.heap.size, _, none⟩) hxr] at y0 y1 y2 y3 y4 y5
                            clear hal u0 u1 u2
                            go_quiet ((first | (go_at_call 50; refine Calls.quiet_of_same (P1.out _)) | (go_at_call 50; refine Calls.quiet_of_same (P2.out _))))
                            go_wp2_with fail
                            exact ⟨⟨q + 1, by omega, by go_num, HB2.out.trans ((below_drewN hbl _).mono HB2.out.size), by show _ = _; rw [HK2.out, HS.out, HE8.out, HE9.out]; simp⟩, by simp [intOf] <;> omega⟩
                          · have z9 : (er != yr) = true := by simpa using hr
                            have z10 : (!(er == yr)) = true := by simpa using hr
                            have HE9 : Hid ((er == yr) = false) := by show _ = _; simpa using hr
                            clear hr
                            have hR : R = false := by rw [HR.out, HK2.out, HS.out, HE8.out, HE9.out]; simp
                            subst hR
                            go_wp2_with fail
                            have hal := heap_alloc_new wr (.cells #[.int .i64 ei, .int .i64 eq, .bool er] 60)
                            have hbl := belowOne wr (.cells #[.int .i64 ei, .int .i64 eq, .bool er] 60)
                            generalize wr.alloc (.cells #[.int .i64 ei, .int .i64 eq, .bool er] 60) = w3 at *
                            have t0 : w3.cell? ⟨wr.heap.size, 0, none⟩ = some (.int .i64 ei) := cell_of_row _ _ _ _ _ _ hal
                            have t1 : w3.cell? ⟨wr.heap.size, 1, none⟩ = some (.int .i64 eq) := cell_of_row _ _ _ _ _ _ hal
                            have t2 : w3.cell? ⟨wr.heap.size, 2, none⟩ = some (.bool er) := cell_of_row _ _ _ _ _ _ hal
                            rw [← hbl.cell (p := ⟨b, _, none⟩) hbr] at z0 z1 z2 v0 v1 v2
                            rw [← hbl.cell (p := ⟨w.heap.size, _, none⟩) hxr] at y0 y1 y2 y3 y4 y5
                            clear hal u0 u1 u2
                            go_quiet ((first | (go_at_call 50; refine Calls.quiet_of_same (P1.out _)) | (go_at_call 50; refine Calls.quiet_of_same (P2.out _))))
                            go_wp2_with fail
                            go_ret
                            exact ⟨rfl, HBW.out.trans ((below_drewN hbl _).mono HBW.out.size)⟩
                        · have z8 : (eq != xq + 1) = true := by simpa using he
                          have HE8 : Hid ((eq == xq + 1) = false) := by show _ = _; simpa using he
                          clear he
                          have hR : R = false := by rw [HR.out, HK2.out, HS.out, HE8.out]; simp
                          subst hR
                          go_wp2_with fail
                          have hal := heap_alloc_new wr (.cells #[.int .i64 ei, .int .i64 eq, .bool er] 60)
                          have hbl := belowOne wr (.cells #[.int .i64 ei, .int .i64 eq, .bool er] 60)
                          generalize wr.alloc (.cells #[.int .i64 ei, .int .i64 eq, .bool er] 60) = w3 at *
                          have t0 : w3.cell? ⟨wr.heap.size, 0, none⟩ = some (.int .i64 ei) := cell_of_row _ _ _ _ _ _ hal
                          have t1 : w3.cell? ⟨wr.heap.size, 1, none⟩ = some (.int .i64 eq) := cell_of_row _ _ _ _ _ _ hal
                          have t2 : w3.cell? ⟨wr.heap.size, 2, none⟩ = some (.bool er) := cell_of_row _ _ _ _ _ _ hal
                          rw [← hbl.cell (p := ⟨b, _, none⟩) hbr] at z0 z1 z2 v0 v1 v2
                          rw [← hbl.cell (p := ⟨w.heap.size, _, none⟩) hxr] at y0 y1 y2 y3 y4 y5
                          clear hal u0 u1 u2
                          go_quiet ((first | (go_at_call 50; refine Calls.quiet_of_same (P1.out _)) | (go_at_call 50; refine Calls.quiet_of_same (P2.out _))))
                          go_wp2_with fail
                          go_ret
                          exact ⟨rfl, HBW.out.trans ((below_drewN hbl _).mono HBW.out.size)⟩
                  · obtain rfl : q = m := by omega
                    have hEB : EB = true := by rw [HK2.out, List.drop_of_length_le (by rw [HL2.out]; omega), edgesB_nil]
                    subst hEB
                    have hR : R = true := HR.out
                    subst hR
                    have i1 : ¬ (q : Int) < (k : Int) - 1 := by omega
                    clear HK2
                    go_wp2_with fail
                    go_ret
                    exact ⟨rfl, HBW.out⟩
end Go.Proofs.Ytnpbkjmlmdpggaa.Od
