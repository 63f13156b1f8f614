import Derived.Test.YtnpbkjmlmdpggaaWs
/- Paths of raw numbers. -/
set_option linter.unusedVariables false
set_option linter.unusedSimpArgs false
namespace Go.Proofs.Ytnpbkjmlmdpggaa.Wk
open Go.RowKit Go.Shelf Ly Od

theorem pick13_any (c n : Int) (w : World) (hc0 : -9223372036854775808 ≤ c) (hc1 : c ≤ 9223372036854775807) (hn0 : 0 < n) (hn1 : n ≤ 9223372036854775807) :
    Calls Try.prog 19 #[.int .i64 c, .int .i64 n] w (fun e w' => e = .returned (.int .i64 (pickS c n)) ∧ w = w') := by
  by_cases hc : c < 0
  all_goals
    go_enter Try.func19, Try.ntmps19
    go_wp2
    go_ret
    refine ⟨Ly.ret_int ?_, rfl⟩
    unfold pickS
    first
      | (rw [if_pos hc, ← Int.neg_tmod, Int.tmod_eq_emod_of_nonneg (by omega)]; done)
      | rw [if_neg (by omega)]
/-- append to a row of one's own, of what lies in a block: what is older stays. -/
theorem appendL {P : Program} {W : World} {ops : Array Oper} {rest : List Oper} {o : Oper} {a : Act} {Q : Exit → Act → World → Prop} (hgd : o.guard = none) (s x : Operand) {Ts T : TypeId} {size bytes : Nat} {z : Value}
    (hinfo : (P.info? T).map (fun i => (i.zero, i.size, i.bytes)) = some (some z, size, bytes)) (hz : z.cells.size = size) (hsz : 0 < size) (hu : P.underlying Ts = some (.slice T))
    (ho : o.op = .call { callee := .builtin .append, args := #[s, x], argTypes := #[Ts, Ts] }) (base : Nat) (v : Value) (k : Nat) (xs : List Value) (hs : a.eval s = v) (hown : W.ownsRow base T size v k xs)
    (B m c : Nat) (hx : a.eval x = .slice (some ⟨B, 0, none⟩) (m + 1) c) (news : List Value) (hl : news.length = (m + 1) * size) (hB : W.heap[B]? = some (.cells news.toArray T (0, 0))) (hone : ∀ u ∈ news, u.oneCell' = true)
    (hlen : (k + (m + 1)) * bytes ≤ 140737488355328) (hmax : k + (m + 1) ≤ maxLen) (hbase : base ≤ W.heap.size)
    (h : ∀ g' c' w', w'.ownsRow base T size (.slice (some ⟨g', 0, none⟩) (k + (m + 1)) c') (k + (m + 1)) (xs ++ news) → Below base W w' → wpList P ops Q rest (a.put o.dst (.slice (some ⟨g', 0, none⟩) (k + (m + 1)) c')) w') : wpList P ops Q (o :: rest) a W := by
  obtain ⟨i0, hi0, hz0, hz1, hz2⟩ := info_parts hinfo
  refine wpList_append_own W hgd s x Ts ho base T i0 _ size bytes hu hi0 hz0 hz1 hz2 hz hsz v k xs hs hown ⟨B, 0, none⟩ (m + 1) c news hx hl ?_ hone hmax hlen hbase ?_
  · intro j u hu
    rw [show (⟨B, 0, none⟩ : Addr).add j = ⟨B, j, none⟩ by simp only [Addr.add]; split <;> simp_all, cell_of_row W B j _ _ _ hB]
    simpa using hu
  · intro v' w' h2 h3 _
    obtain ⟨g', c', rfl⟩ := ownsRow_succ (k := k + m) h2
    exact h g' c' w' h2 ((Below.refl _ _).grown h3 hbase (fun k hk => (World.ownsRow.lt hown k hk).1))
/-- A path over a layout, made. -/
def RetPath (n : Int) (es : List Ed) (w : World) (e : Ending) (w' : World) : Prop := ∃ (p : List Int) (ao : Option Addr) (c : Nat), e = .returned (.slice ao p.length c) ∧ LP n es p ∧ p.length ≤ 41 ∧ p.length ≤ c ∧ IntsAt w' (.slice ao p.length c) p ∧ (∀ b o, ao = some ⟨b, o, none⟩ → w.heap.size ≤ b) ∧ Below w.heap.size w w'
theorem own_cap {w : World} {base T s n c k : Nat} {ao : Option Addr} {xs : List Value} (h : w.ownsRow base T s (.slice ao n c) k xs) : k ≤ c := by
  rcases h.2 with ⟨e, rfl⟩ | ⟨g, cap, cur, e, _, _, h1, _⟩
  · exact Nat.zero_le _
  · cases e; exact h1
theorem own_base {w : World} {base T s n c k b o : Nat} {ao : Option Addr} {xs : List Value} (h : w.ownsRow base T s (.slice ao n c) k xs) (e : ao = some ⟨b, o, none⟩) : base ≤ b := by
  subst e
  exact (World.ownsRow.lt h b rfl).1
theorem pi_last {p : List Int} {a b : Int} : pi (p ++ [a, b]) ((p ++ [a, b]).length - 1) = b := by
  have := pi_append_right (p := p) (q := [a, b]) (i := 1)
  rw [show (p ++ [a, b]).length - 1 = p.length + 1 by simp]
  exact this
set_option maxHeartbeats 4000000 in
set_option maxRecDepth 100000 in
theorem path13_any {n : Int} {es : List Ed} {w : World} (lv : Value) (hl : EdgesAt w lv es) (hr : RightL n es) (a : Int) (ha : Js.i64B a) (tv : Value) (T : List Int) (hT : IntsAt w tv T) (hTB : ∀ x ∈ T, Js.i64B x) :
    Calls Try.prog 36 #[.agg #[.int .i64 n, lv], .int .i64 a, tv, .int .i64 20] w (RetPath n es w) := by
  obtain ⟨Q, HQ⟩ : ∃ Q, Hid (RetPath n es w = Q) := ⟨_, rfl⟩
  rw [HQ.out]
  have HE := Lib.hid hl
  have HT := Lib.hid hT
  have HR := Lib.hid hr
  have hn0 := hr.1
  have hn1 := hr.2.1
  have hes := hr.2.2.1
  obtain ⟨la, lc, rfl, hll, -⟩ := hl
  obtain ⟨ta, tc, rfl, htl, -⟩ := hT
  obtain ⟨w0, HW0⟩ : ∃ w0, Hid (w.alloc (.cells #[.int .i64 n, .slice la es.length lc] 32) = w0) := ⟨_, rfl⟩
  have hb0 : Below w.heap.size w w0 := by rw [← HW0.out]; exact (Below.refl _ _).alloc (Nat.le_refl _) _
  have HB0 := Lib.hid hb0
  have z0 : w0.cell? ⟨w.heap.size, 0, none⟩ = some (.int .i64 n) := by rw [← HW0.out]; exact (HoldsA.new w _ 32 0 _ rfl).1
  have z1 : w0.cell? ⟨w.heap.size, 1, none⟩ = some (.slice la es.length lc) := by rw [← HW0.out]; exact (HoldsA.new w _ 32 1 _ rfl).1
  have Z1 := Lib.hid z1
  obtain ⟨c0, HC0⟩ : ∃ c0, Hid (pickS a n = c0) := ⟨_, rfl⟩
  have p0 := pickS_nonneg (c := a) (n := n) (by omega)
  have p1 := pickS_lt (c := a) (n := n) (by omega)
  have CP := Lib.hid (fun w' => pick13_any a n w' ha.1 ha.2 (by omega) (by omega))
  rw [HC0.out] at p0 p1 CP
  clear hb0
  go_enter Try.func36, Try.ntmps36
  go_upto_region 1 with fail
  rw [HW0.out]
  go_wp2_with (go_at_call 19; (with_reducible refine (CP.out _).mono ?_); rintro e1 w1 ⟨rfl, rfl⟩)
  obtain ⟨w1, HW1⟩ : ∃ w1, Hid (w0.alloc (.cells #[.int .i64 c0] 3) = w1) := ⟨_, rfl⟩
  rw [HW1.out]
  have HO1 : Hid (w1.ownsRow w0.heap.size 3 1 (.slice (some ⟨w0.heap.size, 0, none⟩) 1 1) [c0].length (intC [c0])) := ⟨rfl, .inr ⟨w0.heap.size, 1, #[.int .i64 c0], rfl, Nat.le_refl _, by rw [← HW1.out]; exact heap_alloc_new w0 _, Nat.le_refl _, by unfold maxLen; omega, rfl, rfl⟩⟩
  have HB1 : Hid (Below w0.heap.size w0 w1) := by show Below _ _ _; rw [← HW1.out]; exact (Below.refl _ _).alloc (Nat.le_refl _) _
  have HLP := Lib.hid (LP.one (es := es) p0 p1)
  have ht18 : T.length < 9223372036854775807 := by omega
  go_loopw [9, 10, 11] (fun c vo i wr => ∃ (k : Nat) (p : List Int) (vo' : Value), vo' = vo ∧ k ≤ 20 ∧ k ≤ T.length ∧ i = .int .i64 k ∧ c = .int .i64 (pi p (p.length - 1)) ∧ Hid (p.length = 2 * k + 1) ∧ Hid (LP n es p) ∧ Hid (wr.ownsRow w0.heap.size 3 1 vo' p.length (intC p)) ∧ Hid (Below w0.heap.size w0 wr)) (fun _ _ i _ => 20 - (intOf i).toNat)
  case atStart => exact ⟨0, [c0], _, rfl, Nat.zero_le _, Nat.zero_le _, rfl, rfl, rfl, HLP, HO1, HB1⟩
  case round =>
    obtain ⟨k, p, vo, rfl, hk, hkT, rfl, rfl, HPL, HL, HO, HB⟩ := hrel
    obtain ⟨wq, rfl⟩ : ∃ wq, wq = wr := ⟨_, rfl⟩
    clear HLP HO1 HB1 z0 z1
    obtain ⟨cu, HCU⟩ : ∃ cu, Hid (pi p (p.length - 1) = cu) := ⟨_, rfl⟩
    rw [HCU.out]
    obtain ⟨ao1, cap1, rfl⟩ := row_form HO.out
    have hk0 : (k : Int) < 20 ∨ ¬ (k : Int) < 20 := by omega
    by_cases hlt : k < T.length ∧ k < 20
    · have hlT : (k : Int) < (T.length : Int) := by omega
      have hl20 : (k : Int) < 20 := by omega
      have hlTn := hlt.1
      have hwk : IntKind.i64.wrap ((k : Int) + 1) = (k : Int) + 1 := IntWalk.i64_in _ (by omega)
      obtain ⟨ta', tc', e, -, htc⟩ := HT.out
      cases e
      obtain ⟨tb, tf, rfl, htb, htc⟩ := htc (by omega)
      have hx0 := htc k hlt.1
      have HXB := hTB _ (ati_mem hlt.1)
      generalize ati T k = x at *
      clear hlt hk0 htc
      obtain ⟨f, hf⟩ : ∃ f : Nat → Bool, (fun i => decide ((ate es i).1 = cu)) = f := ⟨_, rfl⟩
      have HF : Hid (∀ i, f i = decide ((ate es i).1 = cu)) := fun i => by rw [← hf]
      clear hf
      have hx1 := (HB0.out.cell (p := ⟨tb, _, none⟩) htb).trans hx0
      have hx2 := (HB.out.cell (p := ⟨tb, _, none⟩) (Nat.lt_of_lt_of_le htb HB0.out.size)).trans hx1
      have hq1 := (HB.out.cell (cell_lt Z1.out)).trans Z1.out
      have HX2 := Lib.hid hx2
      have HQ1 := Lib.hid hq1
      have htb2 := cell_lt hx2
      have hlb2 := cell_lt hq1
      clear hx0 hx1 hx2
      go_upto_region 8 with fail
      go_loopw [12, 13] (fun v2 i wr => ∃ (j m : Nat) (v2' : Value), v2' = v2 ∧ j ≤ es.length ∧ i = .int .i64 j ∧ m ≤ j ∧ Hid (wr.ownsRow wq.heap.size 3 1 v2' m (intC (selL f j))) ∧ Hid (m = (selL f j).length) ∧ Hid (Below wq.heap.size wq wr)) (fun _ i _ => es.length - (intOf i).toNat)
      case atStart => exact ⟨0, 0, _, rfl, Nat.zero_le _, rfl, Nat.le_refl _, World.ownsRow_nil _ _ _ _, rfl, Below.refl _ _⟩
      case round =>
        obtain ⟨j, m, v2, rfl, hj, rfl, hmj, HO2, HM2, HR2⟩ := hrel
        obtain ⟨ao2, cap2, rfl⟩ := row_form HO2.out
        have y1 := (HR2.out.cell (p := ⟨w.heap.size, 1, none⟩) hlb2).trans HQ1.out
        clear hq1
        by_cases hjl : j < es.length
        · obtain ⟨la', lc', e, -, hlc⟩ := HE.out
          cases e
          obtain ⟨eb, ef, rfl, heb, hlc⟩ := hlc (by omega)
          have g0 := (hlc j hjl).1
          have GB := Lib.hid ((HB0.out.trans (HB.out.mono HB0.out.size)).trans (HR2.out.mono (HB0.out.trans (HB.out.mono HB0.out.size)).size))
          replace g0 := (GB.out.cell (p := ⟨eb, _, none⟩) heb).trans g0
          have HFJ := Lib.hid (HF.out j)
          have hjE : (j : Int) < (es.length : Int) := by omega
          have hwj : IntKind.i64.wrap ((j : Int) + 1) = (j : Int) + 1 := IntWalk.i64_in _ (by omega)
          have hsz := HR2.out.size
          generalize (ate es j).1 = fr at *
          clear hlc
          by_cases h1 : fr = cu
          · subst h1
            have HSs : Hid (selL f (j + 1) = selL f j ++ [(j : Int)]) := selL_yes (by rw [HFJ.out]; simp)
            go_wp2_with (at_builtin; (refine appendL rfl _ _ int_info rfl (by decide) Try.underlying27 rfl wq.heap.size _ m _ rfl (HO2.out.alloc _) wr.heap.size 0 1 rfl [.int .i64 j] rfl (heap_alloc_new wr _) (by simp [Value.oneCell']) (by omega) (by unfold maxLen; omega) (by simp; omega) ?_); intro g' cp w4 hown hbel)
            have HN : Hid (w4.ownsRow wq.heap.size 3 1 (.slice (some ⟨g', 0, none⟩) (m + 1) cp) (m + 1) (intC (selL f (j + 1)))) := by
              show World.ownsRow _ _ _ _ _ _ _
              rw [HSs.out, intC_append]
              exact hown
            have HBn : Hid (Below wq.heap.size wq w4) := (HR2.out.alloc hsz _).trans hbel
            have HMn : Hid (m + 1 = (selL f (j + 1)).length) := by
              show _ = _
              rw [HSs.out, List.length_append, ← HM2.out]
              rfl
            clear hown hbel
            go_roundw
            case rel => exact ⟨j + 1, m + 1, _, rfl, by omega, by go_num, by omega, HN, HMn, HBn⟩
            case measure => simp [intOf]; omega
          · have HSs : Hid (selL f (j + 1) = selL f j) := selL_no (by rw [HFJ.out]; simpa using h1)
            have d1 : (fr == cu) = false := by simpa using h1
            have HN : Hid (wr.ownsRow wq.heap.size 3 1 (.slice ao2 m cap2) m (intC (selL f (j + 1)))) := by
              show World.ownsRow _ _ _ _ _ _ _
              rw [HSs.out]
              exact HO2.out
            have HMn : Hid (m = (selL f (j + 1)).length) := by show _ = _; rw [HSs.out]; exact HM2.out
            clear h1
            go_wp2_with fail
            go_roundw
            case rel => exact ⟨j + 1, m, _, rfl, by omega, by go_num, by omega, HN, HMn, HR2⟩
            case measure => simp [intOf]; omega
        · obtain rfl : es.length = j := by omega
          have hjE : ¬ (es.length : Int) < (es.length : Int) := by omega
          have HO3 := Lib.hid (own_below HO.out HR2.out)
          have HB3 := Lib.hid (HB.out.trans (HR2.out.mono HB.out.size))
          have HBW := Lib.hid (HB0.out.trans (HB3.out.mono HB0.out.size))
          cases m with
          | zero =>
            have HIS := Lib.hid (ints_own HO3.out rfl (by have := HPL.out; omega))
            go_wp2_with fail
            rw [← HQ.out]
            exact ⟨p, _, _, rfl, HL.out, by have := HPL.out; omega, own_cap HO3.out, HIS.out, fun b o e => Nat.le_trans HB0.out.size (own_base HO3.out e), HBW.out⟩
          | succ m =>
            have HI2 := Lib.hid (ints_own HO2.out HM2.out.symm (by omega))
            have q0 := pickS_nonneg (c := x) (n := ((m : Int) + 1)) (by omega)
            have q1 := pickS_lt (c := x) (n := ((m : Int) + 1)) (by omega)
            have CQ := Lib.hid (fun w' => pick13_any x ((m : Int) + 1) w' HXB.1 HXB.2 (by omega) (by omega))
            obtain ⟨jj, hjj⟩ : ∃ jj : Nat, pickS x ((m : Int) + 1) = (jj : Int) := ⟨(pickS x ((m : Int) + 1)).toNat, by omega⟩
            rw [hjj] at q0 q1 CQ
            clear hjj
            obtain ⟨ao3, cap3, e3, -, hc3⟩ := HI2.out
            rw [← HM2.out] at hc3 e3
            cases e3
            obtain ⟨ob, oo, rfl, hob, hc3⟩ := hc3 (by omega)
            have v0 := hc3 jj (by omega)
            have hmem : ati (selL f es.length) jj ∈ selL f es.length := ati_mem (by rw [← HM2.out]; omega)
            obtain ⟨k0, k1, k2⟩ := mem_selL.1 hmem
            obtain ⟨ee, hee⟩ : ∃ ee : Nat, ati (selL f es.length) jj = (ee : Int) := ⟨(ati (selL f es.length) jj).toNat, by omega⟩
            rw [hee] at v0 k1 k2
            rw [Int.toNat_natCast] at k1 k2
            rw [HF.out, decide_eq_true_iff] at k2
            obtain ⟨la', lc', e, -, hlc⟩ := HE.out
            cases e
            obtain ⟨eb, ef, rfl, heb, hlc⟩ := hlc (by omega)
            have g1 := (hlc ee k1).2.1
            replace g1 := (HBW.out.cell (p := ⟨eb, _, none⟩) heb).trans g1
            have hto := (HR.out.at k1).2.1
            have HL2 := Lib.hid (HL.out.snoc k1 (k2.trans HCU.out.symm))
            have x2 := (HR2.out.cell (p := ⟨tb, tf + k, none⟩) htb2).trans HX2.out
            have heE : (ee : Int) < (es.length : Int) := by omega
            have hjM : (jj : Int) < ((m : Int) + 1) := by omega
            have hw1000 : IntKind.i64.wrap (1000 + (ee : Int)) = 1000 + (ee : Int) := IntWalk.i64_in _ (by omega)
            have hsz := HB3.out.size
            generalize (ate es ee).2.1 = tt at *
            clear hlc hc3 hmem hee k2 HO2 HM2 HI2
            go_wp2_with (first
              | (go_at_call 19; (with_reducible refine (CQ.out _).mono ?_); rintro e1 w9 ⟨rfl, rfl⟩)
              | (at_builtin; go_loud (refine appendL rfl _ _ int_info rfl (by decide) Try.underlying27 rfl w0.heap.size _ p.length _ rfl (HO3.out.alloc _) wr.heap.size 1 2 rfl [.int .i64 (1000 + (ee : Int)), .int .i64 tt] rfl (heap_alloc_new wr _) (by simp [Value.oneCell']) (by have := HPL.out; omega) (by unfold maxLen; have := HPL.out; omega) (by simp; omega) ?_); intro g' cp w4 hown hbel))
            have HN : Hid (w4.ownsRow w0.heap.size 3 1 (.slice (some ⟨g', 0, none⟩) (p ++ [1000 + (ee : Int), tt]).length cp) (p ++ [1000 + (ee : Int), tt]).length (intC (p ++ [1000 + (ee : Int), tt]))) := by
              show World.ownsRow _ _ _ _ _ _ _
              rw [intC_append, List.length_append]
              exact hown
            have HBn : Hid (Below w0.heap.size w0 w4) := (HB3.out.alloc hsz _).trans hbel
            clear hown hbel
            go_roundw
            case rel => exact ⟨k + 1, p ++ [1000 + (ee : Int), tt], _, by simp, by omega, by omega, by go_num, by rw [pi_last], by show _ = _; have := HPL.out; simp; omega, HL2, HN, HBn⟩
            case measure => simp [intOf]; omega
    · have HIS := Lib.hid (ints_own HO.out rfl (by have := HPL.out; omega))
      have HBW := Lib.hid (HB0.out.trans (HB.out.mono HB0.out.size))
      by_cases hkT2 : k < T.length
      · have hlT : (k : Int) < (T.length : Int) := by omega
        have hl20 : ¬ (k : Int) < 20 := by omega
        clear hlt hkT2 hk0
        go_wp2_with fail
        rw [← HQ.out]
        exact ⟨p, _, _, rfl, HL.out, by have := HPL.out; omega, own_cap HO.out, HIS.out, fun b o e => Nat.le_trans HB0.out.size (own_base HO.out e), HBW.out⟩
      · have hlT : ¬ (k : Int) < (T.length : Int) := by omega
        clear hlt hkT2 hk0
        go_wp2_with fail
        rw [← HQ.out]
        exact ⟨p, _, _, rfl, HL.out, by have := HPL.out; omega, own_cap HO.out, HIS.out, fun b o e => Nat.le_trans HB0.out.size (own_base HO.out e), HBW.out⟩
end Go.Proofs.Ytnpbkjmlmdpggaa.Wk
