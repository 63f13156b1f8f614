import Derived.Test.YtnpbkjmlmdpggaaWp
import Derived.Test.YtnpbkjmlmdpggaaKc
/- Check. -/
set_option linter.unusedVariables false
set_option linter.unusedSimpArgs false
namespace Go.Proofs.Ytnpbkjmlmdpggaa.Wk
open Go.RowKit Go.Shelf Ly Od

theorem pi_concat {p q : List Int} {i : Nat} : pi (p ++ q) i = if i < p.length then pi p i else pi q (i - p.length) := by
  by_cases h : i < p.length
  · rw [if_pos h, pi_append_left h]
  · rw [if_neg h, show i = p.length + (i - p.length) by omega, pi_append_right, Nat.add_sub_cancel_left]
theorem baseN_even (ns es : List St) : ∀ k j, j < k → pi (baseN ns es k) (2 * j) = (ns.getD j st0).id
  | 0, j, h => by omega
  | 1, j, h => by
    obtain rfl : j = 0 := by omega
    simp [baseN, pi]
  | k + 2, j, h => by
    have hl := baseN_len ns es (k + 1)
    rw [baseN, pi_concat, hl]
    by_cases c : j < k + 1
    · rw [if_pos (by omega), baseN_even ns es (k + 1) j c]
    · obtain rfl : j = k + 1 := by omega
      rw [if_neg (by omega), show 2 * (k + 1) - (2 * (k + 1) - 1) = 1 by omega]
      rfl
theorem mem_stops {nm : List UInt8 → Bool} {x : O} (hx : rightO nm x = true) (node : Int) : decide (node ∈ stopsL (baseS nm x)) = (List.range (baseO x)).any fun j => decide ((x.ns.getD j st0).id = node) := by
  have hb := right_base hx
  unfold baseS
  rw [if_pos hx, hb, Bool.eq_iff_iff, decide_eq_true_iff, List.any_eq_true]
  unfold stopsL
  rw [List.mem_map, baseN_len]
  constructor
  · rintro ⟨j, hj, rfl⟩
    rw [List.mem_range] at hj
    exact ⟨j, List.mem_range.2 (by omega), by rw [baseN_even _ _ _ j (by omega)]; simp⟩
  · rintro ⟨j, hj, h⟩
    rw [List.mem_range] at hj
    exact ⟨j, List.mem_range.2 (by omega), by rw [baseN_even _ _ _ j (by omega)]; simpa using h⟩
theorem comes_begins {nm : List UInt8 → Bool} {all : List O} {i : Nat} (hr : ∀ j, j < i → rightO nm (all.getD j o0) = true) : ∀ k, k ≤ i → comesK nm (all.take i) (all.getD (i - 1) o0).o ((all.getD i o0).ns.headD st0).id k = beginsS all i k
  | 0, _ => rfl
  | k + 1, hk => by
    rw [comesK, beginsS, comes_begins hr k (by omega), getD_take (by omega), mem_stops (hr k (by omega))]
    rfl
theorem fine_right {nm : List UInt8 → Bool} {n : Int} {es : List Ed} {all : List O} {i : Nat} (h : fineS nm n es all i = true) : rightO nm (all.getD i o0) = true := by
  unfold fineS at h
  rw [Bool.and_eq_true] at h
  exact (fits_iff.1 h.1).2.1
theorem may_fine {nm : List UInt8 → Bool} {n : Int} {es : List Ed} {all : List O} {i : Nat} (hr : ∀ j, j < i → fineS nm n es all j = true) (hi : i < all.length) : mayS nm n es (all.take i) (all.getD i o0) = fineS nm n es all i := by
  have hl : (all.take i).length = i := by rw [List.length_take]; omega
  unfold mayS fineS
  rw [hl]
  by_cases c : i = 0
  · subst c
    rw [if_pos rfl, if_pos rfl]
  · rw [if_neg c, if_neg c, getD_take (by omega), ← headD_getD, comes_begins (fun j hj => fine_right (hr j hj)) i (Nat.le_refl _)]
    rw [show decide ((all.getD (i - 1) o0).o = (all.getD i o0).o) = decide ((all.getD i o0).o = (all.getD (i - 1) o0).o) by rw [decide_eq_decide]; exact eq_comm]
theorem check_at {nm : List UInt8 → Bool} {n : Int} {es : List Ed} {all : List O} {i : Nat} (hr : ∀ j, j < i → fineS nm n es all j = true) (hi : i < all.length) (h : fineS nm n es all i = false) : checkS nm n es all = i := by
  unfold checkS
  rcases checkF_spec (nm := nm) (n := n) (es := es) (all := all) all.length 0 with ⟨h1, h2⟩ | ⟨a, _, a2, a3, a4, a5⟩
  · rw [h2 i (by omega) (by omega)] at h; cases h
  · rw [a3]
    rcases Nat.lt_trichotomy a i with c | c | c
    · rw [hr a c] at a4; cases a4
    · rw [c]
    · rw [a5 i (by omega) c] at h; cases h
theorem check_all {nm : List UInt8 → Bool} {n : Int} {es : List Ed} {all : List O} (hr : ∀ j, j < all.length → fineS nm n es all j = true) : checkS nm n es all = -1 := by
  unfold checkS
  rcases checkF_spec (nm := nm) (n := n) (es := es) (all := all) all.length 0 with ⟨h1, h2⟩ | ⟨a, _, a2, a3, a4, a5⟩
  · exact h1
  · rw [hr a (by omega)] at a4; cases a4
set_option maxHeartbeats 4000000 in
set_option maxRecDepth 100000 in
theorem check_any {S : Nat → Prop} {n : Int} {es : List Ed} {l : List O} {w : World} (lv v : Value) (hl : EdgesAt w lv es) (hp : OrdsAt S w v l) (hlen : l.length * 8 ≤ 140737488355328) :
    Calls Try.prog 26 #[.agg #[.int .i64 n, lv], v] w (Ret (.int .i64 (checkS Tp.nameB n es l)) w) := by
  have mixed : Try.prog.follows .mixedOrders = true := by kernel_rfl
  obtain ⟨Q, HQ⟩ : ∃ Q, Hid (Ret (.int .i64 (checkS Tp.nameB n es l)) w = Q) := ⟨_, rfl⟩
  rw [HQ.out]
  have HE := Lib.hid hl
  have HP := Lib.hid hp.any
  obtain ⟨la, lc, rfl, hll, -⟩ := hl
  obtain ⟨ao, ac, rfl, hac, hl18, -⟩ := hp
  obtain ⟨N, HNl⟩ : ∃ N, Hid (l.length = N) := ⟨_, rfl⟩
  rw [HNl.out] at hac hlen hl18
  rw [HNl.out]
  obtain ⟨w0, HW0⟩ : ∃ w0, Hid (w.alloc (.cells #[.int .i64 n, .slice la es.length lc] 32) = w0) := ⟨_, rfl⟩
  have hb0 : Below w.heap.size w w0 := by rw [← HW0.out]; exact (Below.refl _ _).alloc (Nat.le_refl _) _
  have HB0 := Lib.hid hb0
  have z0 : w0.cell? ⟨w.heap.size, 0, none⟩ = some (.int .i64 n) := by rw [← HW0.out]; exact (HoldsA.new w _ 32 0 _ rfl).1
  have z1 : w0.cell? ⟨w.heap.size, 1, none⟩ = some (.slice la es.length lc) := by rw [← HW0.out]; exact (HoldsA.new w _ 32 1 _ rfl).1
  clear hb0
  go_enter Try.func26, Try.ntmps26
  go_upto_region 1 with fail
  rw [HW0.out]
  go_wp2_with fail
  go_loopw [9] (fun i wr => ∃ k : Nat, k ≤ N ∧ i = .int .i64 k ∧ Hid (Below w0.heap.size w0 wr) ∧ Hid (∀ j, j < k → fineS Tp.nameB n es l j = true)) (fun i _ => N - (intOf i).toNat)
  case atStart => exact ⟨0, Nat.zero_le _, rfl, Below.refl _ _, fun j hj => by omega⟩
  case round =>
    obtain ⟨k, hk, rfl, HBR, HAL⟩ := hrel
    by_cases hlt : k < N
    · obtain ⟨ao', ac', e, -, -, hrow⟩ := HP.out
      cases e
      obtain ⟨rb, rf, rfl, hrb, hrow⟩ := hrow (by rw [HNl.out]; omega)
      obtain ⟨zv, hlie, hLA⟩ := hrow k (by rw [HNl.out]; exact hlt)
      have HLA := Lib.hid (hLA.below (HB0.out.trans (HBR.out.mono HB0.out.size)) (Nat.le_refl _))
      obtain ⟨bn, kn, be, ke, rfl, d0, d1, d2, d3, d4, d5⟩ := six_at hlie hLA
      have HBB := Lib.hid (HB0.out.trans (HBR.out.mono HB0.out.size))
      have c0 := (HBB.out.cell (p := ⟨rb, _, none⟩) hrb).trans d0
      have c1 := (HBB.out.cell (p := ⟨rb, _, none⟩) hrb).trans d1
      have c2 := (HBB.out.cell (p := ⟨rb, _, none⟩) hrb).trans d2
      have c3 := (HBB.out.cell (p := ⟨rb, _, none⟩) hrb).trans d3
      have c4 := (HBB.out.cell (p := ⟨rb, _, none⟩) hrb).trans d4
      have c5 := (HBB.out.cell (p := ⟨rb, _, none⟩) hrb).trans d5
      have HTK : Hid (OrdsAt Js.Any w (.slice (some ⟨rb, rf, none⟩) k ac) (l.take k)) := OrdsAt.take HP.out (by rw [HNl.out]; omega)
      have HMF := Lib.hid (may_fine HAL.out (by rw [HNl.out]; exact hlt))
      clear hrow hlie hLA d0 d1 d2 d3 d4 d5
      obtain ⟨y, HY⟩ : ∃ y, Hid (l.getD k o0 = y) := ⟨_, rfl⟩
      obtain ⟨ff, HFF⟩ : ∃ ff : Bool, Hid (fineS Tp.nameB n es l k = ff) := ⟨_, rfl⟩
      rw [HY.out] at HLA c0 c1 c2 c3 c4 c5 HMF
      rw [HFF.out] at HMF
      have HCM := Lib.hid (fun w' (hb : Below w.heap.size w w') (hb' : Below wr.heap.size wr w') => mayCome_any (S := Js.Any) (S' := Js.Any) (n := n) (es := es) (l := l.take k) (x := y) (w := w') _ _ _ (HE.out.below hb (Nat.le_refl _)) (HTK.out.below hb (Nat.le_refl _)) (HLA.out.below hb' (Nat.le_refl _)) (by rw [List.length_take]; omega))
      rw [HMF.out] at HCM
      have z0' := z0
      have z1' := z1
      clear z0 z1
      have hk0 : (0 : Int) ≤ (k : Int) := by omega
      have hkN : (k : Int) < (N : Int) := by omega
      have hkc : (k : Int) ≤ (ac : Int) := by omega
      have hkc2 : k ≤ ac := by omega
      have hwk : IntKind.i64.wrap ((k : Int) + 1) = (k : Int) + 1 := IntWalk.i64_in _ (by omega)
      go_upto_region 4 with fail
      obtain ⟨w5, HW5⟩ : ∃ w5, Hid (wr.alloc (.cells #[.int .i64 y.h, .string ⟨y.v.toArray⟩, .int .i64 y.o, .int .i64 y.u, .slice bn y.ns.length kn, .slice be y.es.length ke] 25) = w5) := ⟨_, rfl⟩
      rw [HW5.out]
      have z : ∀ i v, #[Value.int .i64 y.h, .string ⟨y.v.toArray⟩, .int .i64 y.o, .int .i64 y.u, .slice bn y.ns.length kn, .slice be y.es.length ke][i]? = some v → w5.cell? ⟨wr.heap.size, i, none⟩ = some v := fun i v h => by
        rw [← HW5.out]
        exact (HoldsA.new wr _ 25 i v h).1
      have hb5 : Below wr.heap.size wr w5 := by rw [← HW5.out]; exact (Below.refl _ _).alloc (Nat.le_refl _) _
      have HB5 := Lib.hid hb5
      have HBQ := Lib.hid (HBR.out.trans (hb5.mono HBR.out.size))
      have v0 := cell_regrown (z 0 _ rfl)
      have v1 := cell_regrown (z 1 _ rfl)
      have v2 := cell_regrown (z 2 _ rfl)
      have v3 := cell_regrown (z 3 _ rfl)
      have v4 := cell_regrown (z 4 _ rfl)
      have v5 := cell_regrown (z 5 _ rfl)
      have u0' := cell_regrown ((HBQ.out.cell (cell_lt z0')).trans z0')
      have u1' := cell_regrown ((HBQ.out.cell (cell_lt z1')).trans z1')
      have C1 := Lib.hid (fun (dd : Nat) (os : Array Obj) => Calls.regrown_of (w := w5) (d := dd) (os := os) (HCM.out _ ((HB0.out.trans (HBQ.out.mono HB0.out.size)).trans ((below_regrown w5 dd os).mono (HB0.out.trans (HBQ.out.mono HB0.out.size)).size)) (HB5.out.trans ((below_regrown w5 dd os).mono HB5.out.size))))
      clear z hb5 c0 c1 c2 c3 c4 c5 HCM HTK HLA
      refine wp_region_quiet_below mixed (by kernel_rfl) ?_
      repeat (go_big_quiet_step (with_reducible exact C1.out _ _))
      refine wpQuiet_nil ?_
      intro _ hw'
      obtain ⟨⟨dq, osq⟩, hw''⟩ := hw'
      subst hw''
      have HBN := Lib.hid (HBQ.out.trans ((below_regrown w5 dq osq).mono HBQ.out.size))
      clear v0 v1 v2 v3 v4 v5 u0' u1'
      cases ff with
      | true =>
        have HAL2 : Hid (∀ j, j < k + 1 → fineS Tp.nameB n es l j = true) := fun j hj => by
          by_cases e : j = k
          · subst e; exact HFF.out
          · exact HAL.out j (by omega)
        clear HAL
        generalize Sort.grow (redrawn w5 dq) osq = w6 at *
        go_wp2_with fail
        go_roundw
        case rel => exact ⟨k + 1, by omega, by go_num, HBN, HAL2⟩
        case measure => simp [intOf]; omega
      | false =>
        have HR := Lib.hid (check_at HAL.out (by rw [HNl.out]; exact hlt) HFF.out)
        rw [HR.out] at HQ
        have HB7 := Lib.hid (HB0.out.trans (HBN.out.mono HB0.out.size))
        generalize Sort.grow (redrawn w5 dq) osq = w6 at *
        go_wp2_with fail
        rw [← HQ.out]
        exact ⟨rfl, HB7.out⟩
    · obtain rfl : k = N := by omega
      have HR := Lib.hid (check_all (by rw [HNl.out]; exact HAL.out))
      rw [HR.out] at HQ
      have HB7 := Lib.hid (HB0.out.trans (HBR.out.mono HB0.out.size))
      go_wp2_with fail
      rw [← HQ.out]
      exact ⟨rfl, HB7.out⟩
end Go.Proofs.Ytnpbkjmlmdpggaa.Wk
