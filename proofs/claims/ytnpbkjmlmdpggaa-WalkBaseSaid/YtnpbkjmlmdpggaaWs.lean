import Derived.Test.YtnpbkjmlmdpggaaWr
import Derived.Test.YtnpbkjmlmdpggaaWi
import Derived.Test.YtnpbkjmlmdpggaaKr
/- The document's Order. -/
set_option linter.unusedVariables false
set_option linter.unusedSimpArgs false
namespace Go.Proofs.Ytnpbkjmlmdpggaa.Wk
open Go.RowKit Go.Shelf Ly Od
attribute [local go_sem] Oper.semAt_some

/-- append, at a step of a region that draws: rows of unlike elements stay. -/
theorem step_append {P : Program} {ops : Array Oper} {o : Oper} {a : Act} {w : World} {K : Act → World → Prop} {Q : Exit → Act → World → Prop} {E : Prop} (hgd : o.guard = none) (s x : Operand) {t e : TypeId} {z : Value} {size bytes : Nat}
    (ho : o.op = .call { callee := .builtin .append, args := #[s, x], argTypes := #[t, t] })
    (hinfo : (P.info? e).map (fun i => (i.zero, i.size, i.bytes)) = some (some z, size, bytes)) (hzs : z.cells.size = size) (hsz : 0 < size) (ht : P.underlying t = some (.slice e))
    (base : Nat) (v : Value) (k : Nat) (xs : List Value) (hs : a.eval s = v) (hown : w.ownsRow base e size v k xs) (B c : Nat) (hx : a.eval x = .slice (some ⟨B, 0, none⟩) 1 c) (news : List Value) (hl : news.length = size) (hB : w.heap[B]? = some (.cells news.toArray e (0, 0))) (hone : ∀ u ∈ news, u.oneCell' = true)
    (hlen : (k + 1) * bytes ≤ 140737488355328) (hmax : k + 1 ≤ maxLen) (hbase : base ≤ w.heap.size)
    (h : ∀ g' c' w', w'.ownsRow base e size (.slice (some ⟨g', 0, none⟩) (k + 1) c') (k + 1) (xs ++ news) → Below base w w' → (∀ b2 e2 s2 v2 n2 x2, e ≠ e2 → w.ownsRow b2 e2 s2 v2 n2 x2 → w'.ownsRow b2 e2 s2 v2 n2 x2) → K (a.put o.dst (.slice (some ⟨g', 0, none⟩) (k + 1) c')) w') :
    if Region.wanted o (yielded ops a.tmps) = true then Oper.wp P o a w K Q else E := by
  have hw : Region.wanted o (yielded ops a.tmps) = true := by simp [Region.wanted, hgd]
  rw [if_pos hw]
  obtain ⟨i0, hi0, hz0, hz1, hz2⟩ := info_parts hinfo
  obtain ⟨v', w', hr, h2, h3, _, h4⟩ := run_append_own_at (P := P) w base t o.type e i0 z size bytes ht hi0 hz0 hz1 hz2 hzs hsz v k xs hown ⟨B, 0, none⟩ 1 c news (by omega) (fun j u hu => by
    rw [show (⟨B, 0, none⟩ : Addr).add j = ⟨B, j, none⟩ by simp only [Addr.add]; split <;> simp_all, cell_of_row w B j _ _ _ hB]
    simpa using hu) hone hmax hlen hbase
  unfold Oper.wp execOp
  simp only [ho, resolve, invoke, builtin, Sem.run_bind, Sem.run_pure, Result.andThen_ok, List.map_toArray, List.map_cons, List.map_nil, hs, hx, hr]
  obtain ⟨g', c', rfl⟩ := ownsRow_succ h2
  exact h g' c' w' h2 ((Below.refl _ _).grown h3 hbase (fun k hk => (World.ownsRow.lt hown k hk).1)) (fun b2 e2 s2 v2 n2 x2 he h4 => h4.kept h3 (own_apart hown h4 he))
/-- What has been put together of so many elements. -/
structure DI (h : Int) (sv : ByteArray) (o u : Int) (w : World) (base bb xb : Nat) (p : List Int) (q r : Int) (nv ev : Value) (k : Nat) (W : World) : Prop where
  a0 : HoldsA W bb 0 (.int .i64 h)
  a1 : HoldsA W bb 1 (.string sv)
  a2 : HoldsA W bb 2 (.int .i64 o)
  a3 : HoldsA W bb 3 (.int .i64 u)
  a4 : HoldsA W bb 4 nv
  a5 : HoldsA W bb 5 ev
  nodes : W.ownsRow base 52 3 nv ((k + 1) / 2) (cellsS (ndW p q r ((k + 1) / 2)))
  edges : W.ownsRow base 60 3 ev (k / 2) (cellsS (edW p q r (k / 2)))
  res : ∀ (j : Nat) (v : Value), (#[.int .i64 0, .string ⟨#[]⟩, .int .i64 0, .int .i64 0, .slice none 0 0, .slice none 0 0] : Array Value)[j]? = some v → HoldsA W xb j v
  bel : Below w.heap.size w W
section
variable {h : Int} {sv : ByteArray} {o u : Int} {w : World} {base bb xb : Nat} {p : List Int} {q r : Int} {nv ev : Value} {k : Nat} {X Y : World}
theorem DI.grow (hI : DI h sv o u w base bb xb p q r nv ev k X) (hb : Below X.heap.size X Y) : DI h sv o u w base bb xb p q r nv ev k Y :=
  ⟨hI.a0.grow hb, hI.a1.grow hb, hI.a2.grow hb, hI.a3.grow hb, hI.a4.grow hb, hI.a5.grow hb, Ly.own_below hI.nodes hb, Ly.own_below hI.edges hb, fun j v hv => (hI.res j v hv).grow hb, hI.bel.trans (hb.mono hI.bel.size)⟩
theorem DI.node (hI : DI h sv o u w base bb xb p q r nv ev k X) (h1 : bb < base) (h2 : xb < bb) (hw : w.heap.size ≤ bb) (hk : ¬ k % 2 = 1) {w3 : World} {v3 : Value} {m e : Nat} {x s0 : Int} {b : Bool} (hm : m = (k + 1) / 2) (he : e = k / 2) (hx : x = ati p k) (h0 : s0 = sq q k) (hb3 : b = decide ((m : Int) < r)) (hb : Below base X w3)
    (hown : w3.ownsRow base 52 3 v3 (m + 1) (cellsS (ndW p q r m) ++ [.int .i64 x, .int .i64 s0, .bool b])) (hoth : w3.ownsRow base 60 3 ev e (cellsS (edW p q r e))) :
    DI h sv o u w base bb xb p q r v3 ev (k + 1) (w3.setCell ⟨bb, 4, none⟩ v3) := by
  obtain ⟨e1, e2, e3⟩ := half_even hk
  subst hm he hx h0 hb3
  have kp : ∀ {b' o' : Nat} {v' : Value}, b' < base → HoldsA X b' o' v' → (b' ≠ bb ∨ o' ≠ 4) → HoldsA (w3.setCell ⟨bb, 4, none⟩ v3) b' o' v' := fun h2 h3 h5 => (h3.below hb h2).other (by omega) _
  refine ⟨kp h1 hI.a0 (by omega), kp h1 hI.a1 (by omega), kp h1 hI.a2 (by omega), kp h1 hI.a3 (by omega), (hI.a4.below hb h1).set _, kp h1 hI.a5 (by omega), ?_, ?_, fun j v hv => kp (by omega) (hI.res j v hv) (by omega), ?_⟩
  · rw [e1, ndW_succ, cellsS_app, e3]
    exact ownsRow_setCell_below hown (by show bb < _; omega) _
  · rw [e2]
    exact ownsRow_setCell_below hoth (by show bb < _; omega) _
  · exact (hI.bel.trans (hb.mono (by omega))).setCell (p := ⟨bb, 4, none⟩) hw _
theorem DI.edge (hI : DI h sv o u w base bb xb p q r nv ev k X) (h1 : bb < base) (h2 : xb < bb) (hw : w.heap.size ≤ bb) (hk : k % 2 = 1) {w3 : World} {v3 : Value} {m e : Nat} {x s0 : Int} {b : Bool} (hm : m = (k + 1) / 2) (he : e = k / 2) (hx : x = ati p k) (h0 : s0 = sq q k) (hb3 : b = decide ((m : Int) < r)) (hb : Below base X w3)
    (hown : w3.ownsRow base 60 3 v3 (e + 1) (cellsS (edW p q r e) ++ [.int .i64 (x - 1000), .int .i64 s0, .bool b])) (hoth : w3.ownsRow base 52 3 nv m (cellsS (ndW p q r m))) :
    DI h sv o u w base bb xb p q r nv v3 (k + 1) (w3.setCell ⟨bb, 5, none⟩ v3) := by
  obtain ⟨e1, e2, e3⟩ := half_odd hk
  subst hm he hx h0 hb3
  have kp : ∀ {b' o' : Nat} {v' : Value}, b' < base → HoldsA X b' o' v' → (b' ≠ bb ∨ o' ≠ 5) → HoldsA (w3.setCell ⟨bb, 5, none⟩ v3) b' o' v' := fun h2 h3 h5 => (h3.below hb h2).other (by omega) _
  refine ⟨kp h1 hI.a0 (by omega), kp h1 hI.a1 (by omega), kp h1 hI.a2 (by omega), kp h1 hI.a3 (by omega), kp h1 hI.a4 (by omega), (hI.a5.below hb h1).set _, ?_, ?_, fun j v hv => kp (by omega) (hI.res j v hv) (by omega), ?_⟩
  · rw [e1]
    exact ownsRow_setCell_below hoth (by show bb < _; omega) _
  · rw [show (k + 1) / 2 = k / 2 + 1 by omega, edW_succ, cellsS_app, e3, show ((k / 2 : Nat) : Int) + 1 = (((k + 1) / 2 : Nat) : Int) by omega]
    exact ownsRow_setCell_below hown (by show bb < _; omega) _
  · exact (hI.bel.trans (hb.mono (by omega))).setCell (p := ⟨bb, 5, none⟩) hw _
end
theorem el_bad {p : List Int} {k : Nat} (hk : k < p.length) (h : elB k (ati p k) = false) : pathB p = false := by
  cases hp : pathB p with
  | false => rfl
  | true =>
    have := (pathB_iff.1 hp).2 k hk
    rw [show pi p k = ati p k from rfl, h] at this
    cases this
theorem tm2 (n : Nat) : Int.tmod (n : Int) 2 = ((n % 2 : Nat) : Int) := (Int.ofNat_tmod n 2).symm
theorem td2 (n : Nat) : Int.tdiv (n : Int) 2 = ((n / 2 : Nat) : Int) := (Int.ofNat_tdiv n 2).symm
/-- The six cells of the answer, as they stand in a world's box. -/
theorem zero_six {W : World} {b : Nat} (h : ∀ (j : Nat) (v : Value), (#[.int .i64 0, .string ⟨#[]⟩, .int .i64 0, .int .i64 0, .slice none 0 0, .slice none 0 0] : Array Value)[j]? = some v → HoldsA W b j v) (v0 v1 v2 v3 v4 v5 : Value) :
    (set6 W b v0 v1 v2 v3 v4 v5).cell? ⟨b, 0, none⟩ = some v0 ∧ (set6 W b v0 v1 v2 v3 v4 v5).cell? ⟨b, 1, none⟩ = some v1 ∧ (set6 W b v0 v1 v2 v3 v4 v5).cell? ⟨b, 2, none⟩ = some v2 ∧ (set6 W b v0 v1 v2 v3 v4 v5).cell? ⟨b, 3, none⟩ = some v3 ∧ (set6 W b v0 v1 v2 v3 v4 v5).cell? ⟨b, 4, none⟩ = some v4 ∧ (set6 W b v0 v1 v2 v3 v4 v5).cell? ⟨b, 5, none⟩ = some v5 := by
  have := set6_cells (h 0 _ rfl) (h 1 _ rfl) (h 2 _ rfl) (h 3 _ rfl) (h 4 _ rfl) (h 5 _ rfl) v0 v1 v2 v3 v4 v5
  exact ⟨this.1.1, this.2.1.1, this.2.2.1.1, this.2.2.2.1.1, this.2.2.2.2.1.1, this.2.2.2.2.2.1⟩
/-- All of it reads as the order. -/
theorem DI.o {hd : Int} {nm : List UInt8} {oi ui : Int} {w : World} {base bb xb : Nat} {p : List Int} {q r : Int} {nv ev : Value} {k : Nat} {X : World} (hI : DI hd ⟨nm.toArray⟩ oi ui w base bb xb p q r nv ev k X) (hk : k = min p.length 127) (hp : pathB p = true) (hB : pI p) (q0 : Js.i64B hd) (q1 : nm.length ≤ 140737488355328) (q2 : Js.i64B oi) (q3 : Js.i64B ui) :
    OAt (fun b => base ≤ b ∧ NotO X b) X (oV hd nm oi ui nv ev) (overW hd nm oi ui p q r) := by
  have hpb := (pathB_iff.1 hp).2
  have h0 : overW hd nm oi ui p q r = ⟨hd, nm, oi, ui, ndW p q r ((k + 1) / 2), edW p q r (k / 2)⟩ := by rw [hk]; rfl
  rw [h0]
  refine ⟨nv, ev, rfl, q0, q1, q2, q3, (sts_ownN (base := base) (T := 52) (by rw [ndW_len]; exact hI.nodes) (by decide) (by rw [ndW_len]; omega) ?_), (sts_ownN (base := base) (T := 60) (by rw [edW_len]; exact hI.edges) (by decide) (by rw [edW_len]; omega) ?_)⟩
  · intro x hx
    simp only [ndW, List.mem_map, List.mem_range] at hx
    obtain ⟨j, hj, rfl⟩ := hx
    have h1 := hpb (2 * j) (by omega)
    unfold elB at h1
    rw [if_pos (by omega), show pi p (2 * j) = ati p (2 * j) from rfl, Bool.and_eq_true, decide_eq_true_iff, decide_eq_true_iff] at h1
    exact ⟨⟨by simp only; omega, by simp only; omega⟩, sq_in _ _⟩
  · intro x hx
    simp only [edW, List.mem_map, List.mem_range] at hx
    obtain ⟨j, hj, rfl⟩ := hx
    have h1 := hpb (2 * j + 1) (by omega)
    unfold elB at h1
    rw [if_neg (by omega), show pi p (2 * j + 1) = ati p (2 * j + 1) from rfl, decide_eq_true_iff] at h1
    have h3 := hB _ (ati_mem (l := p) (i := 2 * j + 1) (by omega))
    exact ⟨⟨by simp only; omega, by simp only; omega⟩, sq_in _ _⟩
/-- What an append leaves. -/
def AppS (T T2 : TypeId) (base m e : Nat) (l l2 news : List Value) (v2 : Value) (wr : World) (g c : Nat) (wq : World) : Prop :=
  wq.ownsRow base T 3 (.slice (some ⟨g, 0, none⟩) (m + 1) c) (m + 1) (l ++ news) ∧ Below base wr wq ∧ wq.ownsRow base T2 3 v2 e l2
theorem stable_new (row : Array Value) (T : TypeId) : Stable (fun z w => ∃ (B c : Nat), z = Value.slice (some ⟨B, 0, none⟩) 1 c ∧ w.heap[B]? = some (.cells row T (0, 0))) := fun z w w' ⟨b, c, hz, h⟩ hB => ⟨b, c, hz, (hB.block b (Array.getElem?_eq_some_iff.1 h).1).trans h⟩
set_option maxRecDepth 100000 in
set_option maxHeartbeats 4000000 in
theorem dorder_any {S : Nat → Prop} {y : O} {p : List Int} {w : World} (hv pv : Value) (hy : OAt S w hv y) (hp : IntsAt w pv p) (hI : pI p) (q r : Int) (hq : Js.i64B q) (hr : Js.i64B r) :
    Calls Try.prog 13 #[hv, pv, .int .i64 q, .int .i64 r] w (RetO (orderS Tp.nameB y.h y.v y.o y.u p q r) w) := by
  have mixed : Try.prog.follows .mixedOrders = true := by kernel_rfl
  obtain ⟨Q, HQ⟩ : ∃ Q, Hid (RetO (orderS Tp.nameB y.h y.v y.o y.u p q r) w = Q) := ⟨_, rfl⟩
  rw [HQ.out]
  obtain ⟨an, cn, ae, ce, rfl, q0, q1, q2, q3, -⟩ := hy.open_
  have HP := Lib.hid hp
  obtain ⟨ao, ac, rfl, hlen, hc⟩ := hp
  obtain ⟨hd, nm, oi, ui, ns, es⟩ := y
  simp only at HQ q0 q1 q2 q3 ⊢
  clear hy
  obtain ⟨N, HN⟩ : ∃ N, Hid (p.length = N) := ⟨_, rfl⟩
  rw [HN.out] at hlen hc HP
  rw [HN.out]
  generalize ns.length = nl
  generalize es.length = el
  obtain ⟨wb, hwb⟩ : ∃ wb, (w.alloc (.cells #[.int .i64 hd, .string ⟨nm.toArray⟩, .int .i64 oi, .int .i64 ui, .slice an nl cn, .slice ae el ce] 25)).alloc (.cells #[.int .i64 0, .string ⟨#[]⟩, .int .i64 0, .int .i64 0, .slice none 0 0, .slice none 0 0] 25) = wb := ⟨_, rfl⟩
  obtain ⟨b1, s1, k1, k2⟩ := two_cells w _ _ _ _ hwb
  have HWB := Lib.hid hwb
  have HB1 := Lib.hid b1
  have HS1 := Lib.hid s1
  have HH1 := Lib.hid k1
  have HX1 := Lib.hid k2
  clear hwb b1 s1 k1 k2
  obtain ⟨x0, g0⟩ := HX1.out 0 _ rfl
  obtain ⟨x1, g1⟩ := HX1.out 1 _ rfl
  obtain ⟨x2, g2⟩ := HX1.out 2 _ rfl
  obtain ⟨x3, g3⟩ := HX1.out 3 _ rfl
  obtain ⟨x4, g4⟩ := HX1.out 4 _ rfl
  obtain ⟨x5, g5⟩ := HX1.out 5 _ rfl
  by_cases hodd : N % 2 = 1
  · have hrem : Int.tmod (N : Int) 2 = 1 := by rw [tm2, hodd]; rfl
    go_enter Try.func13, Try.ntmps13
    go_upto_region 1 with fail
    rw [HWB.out]
    go_wp2_with fail
    go_loop [10] (fun i => ∃ k : Nat, k ≤ N ∧ i = .int .i64 k ∧ Hid (∀ j, j < k → elB j (ati p j) = true)) (fun i => N - (intOf i).toNat)
    case atStart => exact ⟨0, Nat.zero_le _, rfl, fun j hj => by omega⟩
    case round =>
      obtain ⟨k, hk, rfl, HAL⟩ := hrel
      by_cases hlt : k < N
      · obtain ⟨pb, po, rfl, hpb, hcc⟩ := hc (by omega)
        have hx := (HB1.out.cell (p := ⟨pb, po + k, none⟩) hpb).trans (hcc k hlt)
        have hm := tm2 k
        have hkN : (k : Int) < (N : Int) := by omega
        have hwk : IntKind.i64.wrap ((k : Int) + 1) = (k : Int) + 1 := IntWalk.i64_in _ (by omega)
        obtain ⟨B, HB⟩ : ∃ B, Hid (elB k (ati p k) = B) := ⟨_, rfl⟩
        have hel := HB.out
        have HBAD := Lib.hid (fun (h : B = false) => el_bad (by rw [HN.out]; exact hlt) (HB.out.trans h))
        have HNX : Hid (B = true → ∀ j, j < k + 1 → elB j (ati p j) = true) := fun h j hj => by
          by_cases e : j = k
          · subst e; exact HB.out.trans h
          · exact HAL.out j (by omega)
        unfold elB at hel
        generalize ati p k = x at *
        clear HAL hc hcc HB
        by_cases hev : k % 2 = 0
        · rw [hev] at hm
          rw [if_pos hev] at hel
          by_cases h0 : x < 0
          · rw [show decide (0 ≤ x) = false from decide_eq_false (by omega), Bool.false_and] at hel
            subst hel
            have hr : orderS Tp.nameB hd nm oi ui p q r = (o0, false) := by unfold orderS; rw [HBAD.out rfl]; rfl
            rw [hr] at HQ
            clear HNX HBAD
            go_wp2_with fail
            obtain ⟨z0, z1, z2, z3, z4, z5⟩ := zero_six HX1.out (.int .i64 0) (.string ⟨#[]⟩) (.int .i64 0) (.int .i64 0) (.slice none 0 0) (.slice none 0 0)
            have hbl : Below w.heap.size w (set6 wb (w.heap.size + 1) (.int .i64 0) (.string ⟨#[]⟩) (.int .i64 0) (.int .i64 0) (.slice none 0 0) (.slice none 0 0)) := set6_below HB1.out (by omega) _ _ _ _ _ _
            unfold set6 at z0 z1 z2 z3 z4 z5 hbl
            generalize (((((wb.setCell ⟨w.heap.size + 1, 0, none⟩ (.int .i64 0)).setCell ⟨w.heap.size + 1, 1, none⟩ (.string ⟨#[]⟩)).setCell ⟨w.heap.size + 1, 2, none⟩ (.int .i64 0)).setCell ⟨w.heap.size + 1, 3, none⟩ (.int .i64 0)).setCell ⟨w.heap.size + 1, 4, none⟩ (.slice none 0 0)).setCell ⟨w.heap.size + 1, 5, none⟩ (.slice none 0 0) = w6 at *
            refine bodyPost_ret (v := .tuple #[.agg #[.int .i64 0, .string ⟨#[]⟩, .int .i64 0, .int .i64 0, .slice none 0 0, .slice none 0 0], .bool false]) (by simp [results, Try.f13, go_sem, z0, z1, z2, z3, z4, z5]) rfl ?_
            rw [← HQ.out]
            exact ⟨_, rfl, o0_at, hbl⟩
          · rw [show decide (0 ≤ x) = true from decide_eq_true (by omega), Bool.true_and] at hel
            by_cases h1 : x < 1000
            · rw [decide_eq_true h1] at hel
              have h1' : decide (1000 ≤ x) = false := decide_eq_false (by omega)
              subst hel
              have HAL2 := Lib.hid (HNX.out rfl)
              clear HNX HBAD
              go_wp2_with fail
              go_round
              case rel => exact ⟨k + 1, by omega, by go_num, HAL2⟩
              case measure => simp [intOf]; omega
            · rw [decide_eq_false h1] at hel
              have h1' : decide (1000 ≤ x) = true := decide_eq_true (by omega)
              subst hel
              have hr : orderS Tp.nameB hd nm oi ui p q r = (o0, false) := by unfold orderS; rw [HBAD.out rfl]; rfl
              rw [hr] at HQ
              clear HNX HBAD
              go_wp2_with fail
              obtain ⟨z0, z1, z2, z3, z4, z5⟩ := zero_six HX1.out (.int .i64 0) (.string ⟨#[]⟩) (.int .i64 0) (.int .i64 0) (.slice none 0 0) (.slice none 0 0)
              have hbl : Below w.heap.size w (set6 wb (w.heap.size + 1) (.int .i64 0) (.string ⟨#[]⟩) (.int .i64 0) (.int .i64 0) (.slice none 0 0) (.slice none 0 0)) := set6_below HB1.out (by omega) _ _ _ _ _ _
              unfold set6 at z0 z1 z2 z3 z4 z5 hbl
              generalize (((((wb.setCell ⟨w.heap.size + 1, 0, none⟩ (.int .i64 0)).setCell ⟨w.heap.size + 1, 1, none⟩ (.string ⟨#[]⟩)).setCell ⟨w.heap.size + 1, 2, none⟩ (.int .i64 0)).setCell ⟨w.heap.size + 1, 3, none⟩ (.int .i64 0)).setCell ⟨w.heap.size + 1, 4, none⟩ (.slice none 0 0)).setCell ⟨w.heap.size + 1, 5, none⟩ (.slice none 0 0) = w6 at *
              refine bodyPost_ret (v := .tuple #[.agg #[.int .i64 0, .string ⟨#[]⟩, .int .i64 0, .int .i64 0, .slice none 0 0, .slice none 0 0], .bool false]) (by simp [results, Try.f13, go_sem, z0, z1, z2, z3, z4, z5]) rfl ?_
              rw [← HQ.out]
              exact ⟨_, rfl, o0_at, hbl⟩
        · rw [show k % 2 = 1 by omega] at hm
          rw [if_neg hev] at hel
          by_cases h0 : x < 1000
          · rw [decide_eq_false (show ¬ 1000 ≤ x by omega)] at hel
            subst hel
            have hr : orderS Tp.nameB hd nm oi ui p q r = (o0, false) := by unfold orderS; rw [HBAD.out rfl]; rfl
            rw [hr] at HQ
            clear HNX HBAD
            go_wp2_with fail
            obtain ⟨z0, z1, z2, z3, z4, z5⟩ := zero_six HX1.out (.int .i64 0) (.string ⟨#[]⟩) (.int .i64 0) (.int .i64 0) (.slice none 0 0) (.slice none 0 0)
            have hbl : Below w.heap.size w (set6 wb (w.heap.size + 1) (.int .i64 0) (.string ⟨#[]⟩) (.int .i64 0) (.int .i64 0) (.slice none 0 0) (.slice none 0 0)) := set6_below HB1.out (by omega) _ _ _ _ _ _
            unfold set6 at z0 z1 z2 z3 z4 z5 hbl
            generalize (((((wb.setCell ⟨w.heap.size + 1, 0, none⟩ (.int .i64 0)).setCell ⟨w.heap.size + 1, 1, none⟩ (.string ⟨#[]⟩)).setCell ⟨w.heap.size + 1, 2, none⟩ (.int .i64 0)).setCell ⟨w.heap.size + 1, 3, none⟩ (.int .i64 0)).setCell ⟨w.heap.size + 1, 4, none⟩ (.slice none 0 0)).setCell ⟨w.heap.size + 1, 5, none⟩ (.slice none 0 0) = w6 at *
            refine bodyPost_ret (v := .tuple #[.agg #[.int .i64 0, .string ⟨#[]⟩, .int .i64 0, .int .i64 0, .slice none 0 0, .slice none 0 0], .bool false]) (by simp [results, Try.f13, go_sem, z0, z1, z2, z3, z4, z5]) rfl ?_
            rw [← HQ.out]
            exact ⟨_, rfl, o0_at, hbl⟩
          · rw [decide_eq_true (show 1000 ≤ x by omega)] at hel
            subst hel
            have HAL2 := Lib.hid (HNX.out rfl)
            clear HNX HBAD
            go_wp2_with fail
            go_round
            case rel => exact ⟨k + 1, by omega, by go_num, HAL2⟩
            case measure => simp [intOf]; omega
      · have hkN : ¬ (k : Int) < (N : Int) := by omega
        obtain rfl : N = k := by omega
        have HPB := Lib.hid (show pathB p = true from pathB_iff.2 ⟨by rw [HN.out]; exact hodd, fun i hi => HAL.out i (by rw [← HN.out]; exact hi)⟩)
        rw [order_wrap hq HPB.out] at HQ
        obtain ⟨y0, -⟩ := HH1.out 0 _ rfl
        obtain ⟨y1, -⟩ := HH1.out 1 _ rfl
        obtain ⟨y2, -⟩ := HH1.out 2 _ rfl
        obtain ⟨y3, -⟩ := HH1.out 3 _ rfl
        go_wp2_with fail
        obtain ⟨w2, HW2⟩ : ∃ w2, Hid (wb.alloc (.cells #[.int .i64 hd, .string ⟨nm.toArray⟩, .int .i64 oi, .int .i64 ui, .slice none 0 0, .slice none 0 0] 25) = w2) := ⟨_, rfl⟩
        rw [HW2.out]
        have hb2 : Below wb.heap.size wb w2 := by rw [← HW2.out]; exact (Below.refl _ _).alloc (Nat.le_refl _) _
        have hz2 : w2.heap.size = wb.heap.size + 1 := by rw [← HW2.out]; simp
        have hn2 : ∀ j v, (#[.int .i64 hd, .string ⟨nm.toArray⟩, .int .i64 oi, .int .i64 ui, .slice none 0 0, .slice none 0 0] : Array Value)[j]? = some v → HoldsA w2 wb.heap.size j v := fun j v h => by rw [← HW2.out]; exact HoldsA.new wb _ 25 j v h
        have HB2 : Hid (Below w.heap.size w w2) := HB1.out.trans (hb2.mono HB1.out.size)
        have HD0 : Hid (DI hd ⟨nm.toArray⟩ oi ui w (wb.heap.size + 1) wb.heap.size (w.heap.size + 1) p q r (.slice none 0 0) (.slice none 0 0) 0 w2) :=
          ⟨hn2 0 _ rfl, hn2 1 _ rfl, hn2 2 _ rfl, hn2 3 _ rfl, hn2 4 _ rfl, hn2 5 _ rfl, World.ownsRow_nil _ _ _ _, World.ownsRow_nil _ _ _ _, fun j v h => (HX1.out j v h).grow hb2, HB2.out⟩
        have HSZ : Hid (wb.heap.size = w.heap.size + 2) := HS1.out
        have HZ2 := Lib.hid hz2
        clear hb2 hz2 hn2 HW2 HX1 HH1 x0 x1 x2 x3 x4 x5 g0 g1 g2 g3 g4 g5 y0 y1 y2 y3 HAL HWB HB1 hrem hkN
        have HLX : Hid (w.heap.size < w.heap.size + 1 ∧ w.heap.size + 1 < wb.heap.size) := by show _ ∧ _; have := HSZ.out; omega
        generalize wb.heap.size = bb at *
        generalize w.heap.size + 1 = xb at *
        go_loopw [12] (fun i wr => ∃ (k : Nat) (nv ev : Value), k ≤ min N 127 ∧ i = .int .i64 k ∧ Hid (DI hd ⟨nm.toArray⟩ oi ui w (bb + 1) bb xb p q r nv ev k wr)) (fun i _ => min N 127 - (intOf i).toNat)
        case atStart => exact ⟨0, _, _, Nat.zero_le _, rfl, HD0⟩
        case round =>
          obtain ⟨k, nv, ev, hk, rfl, HD⟩ := hrel
          clear HD0
          by_cases hlt : k < N ∧ k < 127
          · have hkN : (k : Int) < (N : Int) := by omega
            have hk7 : (k : Int) < 127 := by omega
            have hm := tm2 k
            obtain ⟨pb, po, rfl, hpb, hcc⟩ := hc (by omega)
            have hx := (HD.out.bel.cell (p := ⟨pb, po + k, none⟩) hpb).trans (hcc k hlt.1)
            obtain ⟨a4, c4, rfl⟩ := row_form HD.out.nodes
            obtain ⟨a5, c5, rfl⟩ := row_form HD.out.edges
            obtain ⟨x, HX⟩ : ∃ x, Hid (ati p k = x) := ⟨_, rfl⟩
            rw [HX.out] at hx
            have hxI := hI x (by rw [← HX.out]; exact ati_mem (by rw [HN.out]; exact hlt.1))
            have hel := (pathB_iff.1 HPB.out).2 k (by rw [HN.out]; exact hlt.1)
            rw [show pi p k = x from HX.out] at hel
            unfold elB at hel
            obtain ⟨s0, HS0⟩ : ∃ s0, Hid (sq q k = s0) := ⟨_, rfl⟩
            have hs0 : IntKind.i64.wrap (q + (k : Int)) = s0 := HS0.out
            obtain ⟨m, HMM⟩ : ∃ m, Hid ((k + 1) / 2 = m) := ⟨(k + 1) / 2, Lib.hid rfl⟩
            obtain ⟨e, HEE⟩ : ∃ e, Hid (k / 2 = e) := ⟨k / 2, Lib.hid rfl⟩
            have hmm := HMM.out
            have hee := HEE.out
            have hxb : Hid (xb < bb) := HLX.out.2
            have hwb : Hid (w.heap.size ≤ bb) := Nat.le_of_lt (Nat.lt_trans HLX.out.1 HLX.out.2)
            rw [HMM.out, HEE.out] at HD
            have hwsz : Hid (bb + 1 ≤ wr.heap.size) := cell_lt HD.out.a0.1
            have hwk : IntKind.i64.wrap ((k : Int) + 1) = (k : Int) + 1 := IntWalk.i64_in _ (by omega)
            obtain ⟨b, HBD⟩ : ∃ b, Hid (decide ((m : Int) < r) = b) := ⟨_, rfl⟩
            have hbd := HBD.out
            have hwm : IntKind.i64.wrap (m : Int) = (m : Int) := IntWalk.i64_in _ (by omega)
            clear hc hcc
            by_cases hev : k % 2 = 0
            · rw [hev] at hm
              have hev2 : ¬ k % 2 = 1 := by omega
              have htd : Int.tdiv (k : Int) 2 = (m : Int) := by rw [td2]; omega
              go_upto_region 13 with fail
              rename_i KK AA
              clear hel hm hev HP
              refine wp_region_grow3 mixed (fun zs => { tmps := List.toArray (Value.agg #[Value.int .i64 hd, Value.string ⟨nm.toArray⟩, Value.int .i64 oi, Value.int .i64 ui, Value.slice an nl cn, Value.slice ae el ce] :: Value.slice (some ⟨pb, po, none⟩) N ac :: Value.int .i64 (q) :: Value.int .i64 (r) :: Value.pointer (some ⟨w.heap.size, 0, none⟩) :: undef :: undef :: undef :: Value.pointer (some ⟨xb, 0, none⟩) :: u9 :: Value.int .i64 ((N : Int)) :: Value.pointer (some ⟨bb, 0, none⟩) :: Value.int .i64 ((k : Int)) :: undef :: Value.slice (some ⟨pb, po, none⟩) N ac :: Value.int .i64 ((N : Int)) :: Value.int .i64 (1) :: Value.bool false :: undef :: Value.int .i64 ((N : Int)) :: Value.slice (some ⟨pb, po, none⟩) N ac :: Value.int .i64 ((N : Int)) :: Value.bool false :: u23 :: u24 :: u25 :: u26 :: u27 :: u28 :: u29 :: u30 :: u31 :: u32 :: u33 :: u34 :: u35 :: u36 :: u37 :: u38 :: u39 :: u40 :: u41 :: u42 :: u43 :: u44 :: u45 :: u46 :: u47 :: u48 :: u49 :: u50 :: u51 :: u52 :: u53 :: u54 :: Value.pointer (some ⟨w.heap.size, 0, none⟩) :: Value.int .i64 (hd) :: Value.pointer (some ⟨w.heap.size, 1, none⟩) :: Value.string ⟨nm.toArray⟩ :: Value.pointer (some ⟨w.heap.size, 2, none⟩) :: Value.int .i64 (oi) :: Value.pointer (some ⟨w.heap.size, 3, none⟩) :: Value.int .i64 (ui) :: Value.agg #[Value.int .i64 hd, Value.string ⟨nm.toArray⟩, Value.int .i64 oi, Value.int .i64 ui, Value.slice none 0 0, Value.slice none 0 0] :: Value.int .i64 ((k : Int)) :: Value.slice (some ⟨pb, po, none⟩) N ac :: Value.int .i64 ((N : Int)) :: Value.bool true :: Value.bool true :: Value.int .i64 ((k : Int)) :: Value.bool true :: Value.bool true :: u72 :: u73 :: Value.int .i64 ((k : Int)) :: Value.int .i64 (0) :: Value.bool true :: zs.getD 0 undef :: zs.getD 1 undef :: zs.getD 2 undef :: zs.getD 3 undef :: zs.getD 4 undef :: zs.getD 5 undef :: zs.getD 6 undef :: zs.getD 7 undef :: zs.getD 8 undef :: zs.getD 9 undef :: zs.getD 10 undef :: zs.getD 11 undef :: zs.getD 12 undef :: zs.getD 13 undef :: zs.getD 14 undef :: u92 :: u93 :: u94 :: u95 :: u96 :: u97 :: u98 :: u99 :: u100 :: u101 :: u102 :: u103 :: u104 :: u105 :: u106 :: u107 :: u108 :: u109 :: u110 :: u111 :: u112 :: undef :: undef :: undef :: undef :: undef :: undef :: []), defers := [] }) [(fun z _ => z = Value.pointer (some ⟨bb, 4, none⟩)), (fun z _ => z = Value.slice a4 m c4), (fun z _ => z = Value.slice (some ⟨pb, po, none⟩) N ac), (fun z _ => z = Value.int .i64 ((k : Int))), (fun z _ => z = Value.pointer (some ⟨pb, po + k, none⟩)), (fun z _ => z = Value.int .i64 (x)), (fun z _ => z = Value.int .i64 (q)), (fun z _ => z = Value.int .i64 ((k : Int))), (fun z _ => z = Value.int .i64 (s0)), (fun z _ => z = Value.int .i64 ((k : Int))), (fun z _ => z = Value.int .i64 ((m : Int))), (fun z _ => z = Value.int .i64 (r)), (fun z _ => z = Value.bool b), (fun z _ => z = Value.agg #[Value.int .i64 (x), Value.int .i64 s0, Value.bool b]), (fun z w => ∃ (B c : Nat), z = Value.slice (some ⟨B, 0, none⟩) 1 c ∧ w.heap[B]? = some (.cells #[.int .i64 (x), .int .i64 s0, .bool b] 52 (0, 0)))] [u77, u78, u79, u80, u81, u82, u83, u84, u85, u86, u87, u88, u89, u90, u91] (fun aq wq => ∃ (z : Value) (g c : Nat), aq = { tmps := List.toArray (Value.agg #[Value.int .i64 hd, Value.string ⟨nm.toArray⟩, Value.int .i64 oi, Value.int .i64 ui, Value.slice an nl cn, Value.slice ae el ce] :: Value.slice (some ⟨pb, po, none⟩) N ac :: Value.int .i64 (q) :: Value.int .i64 (r) :: Value.pointer (some ⟨w.heap.size, 0, none⟩) :: undef :: undef :: undef :: Value.pointer (some ⟨xb, 0, none⟩) :: u9 :: Value.int .i64 ((N : Int)) :: Value.pointer (some ⟨bb, 0, none⟩) :: Value.int .i64 ((k : Int)) :: undef :: Value.slice (some ⟨pb, po, none⟩) N ac :: Value.int .i64 ((N : Int)) :: Value.int .i64 (1) :: Value.bool false :: undef :: Value.int .i64 ((N : Int)) :: Value.slice (some ⟨pb, po, none⟩) N ac :: Value.int .i64 ((N : Int)) :: Value.bool false :: u23 :: u24 :: u25 :: u26 :: u27 :: u28 :: u29 :: u30 :: u31 :: u32 :: u33 :: u34 :: u35 :: u36 :: u37 :: u38 :: u39 :: u40 :: u41 :: u42 :: u43 :: u44 :: u45 :: u46 :: u47 :: u48 :: u49 :: u50 :: u51 :: u52 :: u53 :: u54 :: Value.pointer (some ⟨w.heap.size, 0, none⟩) :: Value.int .i64 (hd) :: Value.pointer (some ⟨w.heap.size, 1, none⟩) :: Value.string ⟨nm.toArray⟩ :: Value.pointer (some ⟨w.heap.size, 2, none⟩) :: Value.int .i64 (oi) :: Value.pointer (some ⟨w.heap.size, 3, none⟩) :: Value.int .i64 (ui) :: Value.agg #[Value.int .i64 hd, Value.string ⟨nm.toArray⟩, Value.int .i64 oi, Value.int .i64 ui, Value.slice none 0 0, Value.slice none 0 0] :: Value.int .i64 ((k : Int)) :: Value.slice (some ⟨pb, po, none⟩) N ac :: Value.int .i64 ((N : Int)) :: Value.bool true :: Value.bool true :: Value.int .i64 ((k : Int)) :: Value.bool true :: Value.bool true :: u72 :: u73 :: Value.int .i64 ((k : Int)) :: Value.int .i64 (0) :: Value.bool true :: Value.pointer (some ⟨bb, 4, none⟩) :: Value.slice a4 m c4 :: Value.slice (some ⟨pb, po, none⟩) N ac :: Value.int .i64 ((k : Int)) :: Value.pointer (some ⟨pb, po + k, none⟩) :: Value.int .i64 (x) :: Value.int .i64 (q) :: Value.int .i64 ((k : Int)) :: Value.int .i64 (s0) :: Value.int .i64 ((k : Int)) :: Value.int .i64 ((m : Int)) :: Value.int .i64 (r) :: Value.bool b :: Value.agg #[Value.int .i64 (x), Value.int .i64 s0, Value.bool b] :: z :: Value.slice (some ⟨g, 0, none⟩) (m + 1) c :: u93 :: u94 :: u95 :: u96 :: u97 :: u98 :: u99 :: u100 :: u101 :: u102 :: u103 :: u104 :: u105 :: u106 :: u107 :: u108 :: u109 :: u110 :: u111 :: u112 :: undef :: undef :: undef :: undef :: undef :: undef :: []), defers := [] } ∧ AppS 52 60 (bb + 1) m e (cellsS (ndW p q r m)) (cellsS (edW p q r e)) [.int .i64 (x), .int .i64 s0, .bool b] (Value.slice a5 e c5) wr g c wq) (fun aq wq => ∃ (z : Value) (g c : Nat), aq = { tmps := List.toArray (Value.agg #[Value.int .i64 hd, Value.string ⟨nm.toArray⟩, Value.int .i64 oi, Value.int .i64 ui, Value.slice an nl cn, Value.slice ae el ce] :: Value.slice (some ⟨pb, po, none⟩) N ac :: Value.int .i64 (q) :: Value.int .i64 (r) :: Value.pointer (some ⟨w.heap.size, 0, none⟩) :: undef :: undef :: undef :: Value.pointer (some ⟨xb, 0, none⟩) :: u9 :: Value.int .i64 ((N : Int)) :: Value.pointer (some ⟨bb, 0, none⟩) :: Value.int .i64 ((k : Int)) :: undef :: Value.slice (some ⟨pb, po, none⟩) N ac :: Value.int .i64 ((N : Int)) :: Value.int .i64 (1) :: Value.bool false :: undef :: Value.int .i64 ((N : Int)) :: Value.slice (some ⟨pb, po, none⟩) N ac :: Value.int .i64 ((N : Int)) :: Value.bool false :: u23 :: u24 :: u25 :: u26 :: u27 :: u28 :: u29 :: u30 :: u31 :: u32 :: u33 :: u34 :: u35 :: u36 :: u37 :: u38 :: u39 :: u40 :: u41 :: u42 :: u43 :: u44 :: u45 :: u46 :: u47 :: u48 :: u49 :: u50 :: u51 :: u52 :: u53 :: u54 :: Value.pointer (some ⟨w.heap.size, 0, none⟩) :: Value.int .i64 (hd) :: Value.pointer (some ⟨w.heap.size, 1, none⟩) :: Value.string ⟨nm.toArray⟩ :: Value.pointer (some ⟨w.heap.size, 2, none⟩) :: Value.int .i64 (oi) :: Value.pointer (some ⟨w.heap.size, 3, none⟩) :: Value.int .i64 (ui) :: Value.agg #[Value.int .i64 hd, Value.string ⟨nm.toArray⟩, Value.int .i64 oi, Value.int .i64 ui, Value.slice none 0 0, Value.slice none 0 0] :: Value.int .i64 ((k : Int)) :: Value.slice (some ⟨pb, po, none⟩) N ac :: Value.int .i64 ((N : Int)) :: Value.bool true :: Value.bool true :: Value.int .i64 ((k : Int)) :: Value.bool true :: Value.bool true :: u72 :: u73 :: Value.int .i64 ((k : Int)) :: Value.int .i64 (0) :: Value.bool true :: Value.pointer (some ⟨bb, 4, none⟩) :: Value.slice a4 m c4 :: Value.slice (some ⟨pb, po, none⟩) N ac :: Value.int .i64 ((k : Int)) :: Value.pointer (some ⟨pb, po + k, none⟩) :: Value.int .i64 (x) :: Value.int .i64 (q) :: Value.int .i64 ((k : Int)) :: Value.int .i64 (s0) :: Value.int .i64 ((k : Int)) :: Value.int .i64 ((m : Int)) :: Value.int .i64 (r) :: Value.bool b :: Value.agg #[Value.int .i64 (x), Value.int .i64 s0, Value.bool b] :: z :: Value.slice (some ⟨g, 0, none⟩) (m + 1) c :: Value.pointer (some ⟨bb, 4, none⟩) :: u94 :: u95 :: u96 :: u97 :: u98 :: u99 :: u100 :: u101 :: u102 :: u103 :: u104 :: u105 :: u106 :: u107 :: u108 :: u109 :: u110 :: u111 :: u112 :: undef :: undef :: undef :: undef :: undef :: undef :: []), defers := [] } ∧ AppS 52 60 (bb + 1) m e (cellsS (ndW p q r m)) (cellsS (edW p q r e)) [.int .i64 (x), .int .i64 s0, .bool b] (Value.slice a5 e c5) wr g c wq) rfl rfl rfl ?_ (by kernel_rfl) (by kernel_rfl) (by kernel_rfl) (by kernel_rfl) ?_ ?_ ?_ ?_
              · intro p hp
                simp only [List.mem_cons, List.not_mem_nil, or_false] at hp
                rcases hp with rfl | rfl | rfl | rfl | rfl | rfl | rfl | rfl | rfl | rfl | rfl | rfl | rfl | rfl | rfl
                all_goals first | exact stable_eq _ | exact stable_new _ _
              · intro i hi zs lr wz o hz hF ho hpre
                have hi' : i < 15 := hi
                clear AA
                have HZ := Lib.hid (HD.out.grow hF.bel)
                obtain ⟨n4, -⟩ := HZ.out.a4
                have hxz := (hF.bel.cell (cell_lt hx)).trans hx
                match zs, (show zs.length = 15 from hz) with
                | z0 :: z1 :: z2 :: z3 :: z4 :: z5 :: z6 :: z7 :: z8 :: z9 :: z10 :: z11 :: z12 :: z13 :: z14 :: [], _ =>
                  clear hz hi
                  change wpOp _ _ _ _ _ { tmps := List.toArray (Value.agg #[Value.int .i64 hd, Value.string ⟨nm.toArray⟩, Value.int .i64 oi, Value.int .i64 ui, Value.slice an nl cn, Value.slice ae el ce] :: Value.slice (some ⟨pb, po, none⟩) N ac :: Value.int .i64 (q) :: Value.int .i64 (r) :: Value.pointer (some ⟨w.heap.size, 0, none⟩) :: undef :: undef :: undef :: Value.pointer (some ⟨xb, 0, none⟩) :: u9 :: Value.int .i64 ((N : Int)) :: Value.pointer (some ⟨bb, 0, none⟩) :: Value.int .i64 ((k : Int)) :: undef :: Value.slice (some ⟨pb, po, none⟩) N ac :: Value.int .i64 ((N : Int)) :: Value.int .i64 (1) :: Value.bool false :: undef :: Value.int .i64 ((N : Int)) :: Value.slice (some ⟨pb, po, none⟩) N ac :: Value.int .i64 ((N : Int)) :: Value.bool false :: u23 :: u24 :: u25 :: u26 :: u27 :: u28 :: u29 :: u30 :: u31 :: u32 :: u33 :: u34 :: u35 :: u36 :: u37 :: u38 :: u39 :: u40 :: u41 :: u42 :: u43 :: u44 :: u45 :: u46 :: u47 :: u48 :: u49 :: u50 :: u51 :: u52 :: u53 :: u54 :: Value.pointer (some ⟨w.heap.size, 0, none⟩) :: Value.int .i64 (hd) :: Value.pointer (some ⟨w.heap.size, 1, none⟩) :: Value.string ⟨nm.toArray⟩ :: Value.pointer (some ⟨w.heap.size, 2, none⟩) :: Value.int .i64 (oi) :: Value.pointer (some ⟨w.heap.size, 3, none⟩) :: Value.int .i64 (ui) :: Value.agg #[Value.int .i64 hd, Value.string ⟨nm.toArray⟩, Value.int .i64 oi, Value.int .i64 ui, Value.slice none 0 0, Value.slice none 0 0] :: Value.int .i64 ((k : Int)) :: Value.slice (some ⟨pb, po, none⟩) N ac :: Value.int .i64 ((N : Int)) :: Value.bool true :: Value.bool true :: Value.int .i64 ((k : Int)) :: Value.bool true :: Value.bool true :: u72 :: u73 :: Value.int .i64 ((k : Int)) :: Value.int .i64 (0) :: Value.bool true :: z0 :: z1 :: z2 :: z3 :: z4 :: z5 :: z6 :: z7 :: z8 :: z9 :: z10 :: z11 :: z12 :: z13 :: z14 :: u92 :: u93 :: u94 :: u95 :: u96 :: u97 :: u98 :: u99 :: u100 :: u101 :: u102 :: u103 :: u104 :: u105 :: u106 :: u107 :: u108 :: u109 :: u110 :: u111 :: u112 :: undef :: undef :: undef :: undef :: undef :: undef :: []), defers := [] } _
                  have hc : i = 0 ∨ i = 1 ∨ i = 2 ∨ i = 3 ∨ i = 4 ∨ i = 5 ∨ i = 6 ∨ i = 7 ∨ i = 8 ∨ i = 9 ∨ i = 10 ∨ i = 11 ∨ i = 12 ∨ i = 13 ∨ i = 14 := by omega
                  clear hi'
                  rcases hc with rfl | rfl | rfl | rfl | rfl | rfl | rfl | rfl | rfl | rfl | rfl | rfl | rfl | rfl | rfl
                  · clear ho hpre
                    refine wpOp_here rfl (fun K' hK => ?_)
                    go_simp
                    exact hK _ _ ⟨_, rfl, Below.refl _ _, fun p hp => by cases (show some (fun z _ => z = Value.pointer (some ⟨bb, 4, none⟩)) = some p from hp); exact rfl⟩
                  · have p0 := hF.fact 0 _ _ rfl rfl (hpre ⟨0, .data⟩ (by cases ho; simp) rfl)
                    subst p0
                    clear ho hpre
                    refine wpOp_here rfl (fun K' hK => ?_)
                    go_simp
                    exact hK _ _ ⟨_, rfl, Below.refl _ _, fun p hp => by cases (show some (fun z _ => z = Value.slice a4 m c4) = some p from hp); exact rfl⟩
                  · clear ho hpre
                    refine wpOp_here rfl (fun K' hK => ?_)
                    go_simp
                    exact hK _ _ ⟨_, rfl, Below.refl _ _, fun p hp => by cases (show some (fun z _ => z = Value.slice (some ⟨pb, po, none⟩) N ac) = some p from hp); exact rfl⟩
                  · clear ho hpre
                    refine wpOp_here rfl (fun K' hK => ?_)
                    go_simp
                    exact hK _ _ ⟨_, rfl, Below.refl _ _, fun p hp => by cases (show some (fun z _ => z = Value.int .i64 ((k : Int))) = some p from hp); exact rfl⟩
                  · have p2 := hF.fact 2 _ _ rfl rfl (hpre ⟨2, .data⟩ (by cases ho; simp) rfl)
                    subst p2
                    have p3 := hF.fact 3 _ _ rfl rfl (hpre ⟨3, .data⟩ (by cases ho; simp) rfl)
                    subst p3
                    clear ho hpre
                    refine wpOp_here rfl (fun K' hK => ?_)
                    go_simp
                    exact hK _ _ ⟨_, rfl, Below.refl _ _, fun p hp => by cases (show some (fun z _ => z = Value.pointer (some ⟨pb, po + k, none⟩)) = some p from hp); exact rfl⟩
                  · have p4 := hF.fact 4 _ _ rfl rfl (hpre ⟨4, .data⟩ (by cases ho; simp) rfl)
                    subst p4
                    clear ho hpre
                    refine wpOp_here rfl (fun K' hK => ?_)
                    go_simp
                    exact hK _ _ ⟨_, rfl, Below.refl _ _, fun p hp => by cases (show some (fun z _ => z = Value.int .i64 (x)) = some p from hp); exact rfl⟩
                  · clear ho hpre
                    refine wpOp_here rfl (fun K' hK => ?_)
                    go_simp
                    exact hK _ _ ⟨_, rfl, Below.refl _ _, fun p hp => by cases (show some (fun z _ => z = Value.int .i64 (q)) = some p from hp); exact rfl⟩
                  · clear ho hpre
                    refine wpOp_here rfl (fun K' hK => ?_)
                    go_simp
                    exact hK _ _ ⟨_, rfl, Below.refl _ _, fun p hp => by cases (show some (fun z _ => z = Value.int .i64 ((k : Int))) = some p from hp); exact rfl⟩
                  · have p6 := hF.fact 6 _ _ rfl rfl (hpre ⟨6, .data⟩ (by cases ho; simp) rfl)
                    subst p6
                    have p7 := hF.fact 7 _ _ rfl rfl (hpre ⟨7, .data⟩ (by cases ho; simp) rfl)
                    subst p7
                    clear ho hpre
                    refine wpOp_here rfl (fun K' hK => ?_)
                    go_simp
                    exact hK _ _ ⟨_, rfl, Below.refl _ _, fun p hp => by cases (show some (fun z _ => z = Value.int .i64 (s0)) = some p from hp); exact rfl⟩
                  · clear ho hpre
                    refine wpOp_here rfl (fun K' hK => ?_)
                    go_simp
                    exact hK _ _ ⟨_, rfl, Below.refl _ _, fun p hp => by cases (show some (fun z _ => z = Value.int .i64 ((k : Int))) = some p from hp); exact rfl⟩
                  · have p9 := hF.fact 9 _ _ rfl rfl (hpre ⟨9, .data⟩ (by cases ho; simp) rfl)
                    subst p9
                    clear ho hpre
                    refine wpOp_here rfl (fun K' hK => ?_)
                    go_simp
                    exact hK _ _ ⟨_, rfl, Below.refl _ _, fun p hp => by cases (show some (fun z _ => z = Value.int .i64 ((m : Int))) = some p from hp); exact rfl⟩
                  · clear ho hpre
                    refine wpOp_here rfl (fun K' hK => ?_)
                    go_simp
                    exact hK _ _ ⟨_, rfl, Below.refl _ _, fun p hp => by cases (show some (fun z _ => z = Value.int .i64 (r)) = some p from hp); exact rfl⟩
                  · have p10 := hF.fact 10 _ _ rfl rfl (hpre ⟨10, .data⟩ (by cases ho; simp) rfl)
                    subst p10
                    have p11 := hF.fact 11 _ _ rfl rfl (hpre ⟨11, .data⟩ (by cases ho; simp) rfl)
                    subst p11
                    clear ho hpre
                    refine wpOp_here rfl (fun K' hK => ?_)
                    go_simp
                    exact hK _ _ ⟨_, rfl, Below.refl _ _, fun p hp => by cases (show some (fun z _ => z = Value.bool b) = some p from hp); exact rfl⟩
                  · have p5 := hF.fact 5 _ _ rfl rfl (hpre ⟨5, .data⟩ (by cases ho; simp) rfl)
                    subst p5
                    have p8 := hF.fact 8 _ _ rfl rfl (hpre ⟨8, .data⟩ (by cases ho; simp) rfl)
                    subst p8
                    have p12 := hF.fact 12 _ _ rfl rfl (hpre ⟨12, .data⟩ (by cases ho; simp) rfl)
                    subst p12
                    clear ho hpre
                    refine wpOp_here rfl (fun K' hK => ?_)
                    go_simp
                    exact hK _ _ ⟨_, rfl, Below.refl _ _, fun p hp => by cases (show some (fun z _ => z = Value.agg #[Value.int .i64 (x), Value.int .i64 s0, Value.bool b]) = some p from hp); exact rfl⟩
                  · have p13 := hF.fact 13 _ _ rfl rfl (hpre ⟨13, .data⟩ (by cases ho; simp) rfl)
                    subst p13
                    clear ho hpre
                    refine wpOp_here rfl (fun K' hK => ?_)
                    go_simp
                    exact hK _ _ ⟨_, rfl, (Below.refl _ _).alloc (Nat.le_refl _) _, fun p hp => by cases (show some (fun z w => ∃ (B c : Nat), z = Value.slice (some ⟨B, 0, none⟩) 1 c ∧ w.heap[B]? = some (.cells #[.int .i64 (x), .int .i64 s0, .bool b] 52 (0, 0))) = some p from hp); exact ⟨_, _, rfl, heap_alloc_new _ _⟩⟩
              · intro zs wz hz hbel hev
                match zs, (show zs.length = 15 from hz) with
                | z0 :: z1 :: z2 :: z3 :: z4 :: z5 :: z6 :: z7 :: z8 :: z9 :: z10 :: z11 :: z12 :: z13 :: z14 :: [], _ =>
                  have p0 := hev 0 _ _ rfl rfl
                  have p1 := hev 1 _ _ rfl rfl
                  have p2 := hev 2 _ _ rfl rfl
                  have p3 := hev 3 _ _ rfl rfl
                  have p4 := hev 4 _ _ rfl rfl
                  have p5 := hev 5 _ _ rfl rfl
                  have p6 := hev 6 _ _ rfl rfl
                  have p7 := hev 7 _ _ rfl rfl
                  have p8 := hev 8 _ _ rfl rfl
                  have p9 := hev 9 _ _ rfl rfl
                  have p10 := hev 10 _ _ rfl rfl
                  have p11 := hev 11 _ _ rfl rfl
                  have p12 := hev 12 _ _ rfl rfl
                  have p13 := hev 13 _ _ rfl rfl
                  have p14 := hev 14 _ _ rfl rfl
                  subst p0 p1 p2 p3 p4 p5 p6 p7 p8 p9 p10 p11 p12 p13
                  clear hz hev
                  clear AA
                  obtain ⟨B0, cB, rfl, hnew⟩ := p14
                  have HZ := HD.out.grow hbel
                  have HZn := HZ.nodes
                  rw [HMM.out] at HZn
                  have HZe := HZ.edges
                  rw [HEE.out] at HZe
                  refine wpOp_here rfl (fun K' hK => ?_)
                  refine step_append rfl _ _ rfl stop_info rfl (by decide) Try.underlying22 (bb + 1) _ m _ rfl HZn B0 _ rfl [.int .i64 (x), .int .i64 s0, .bool b] rfl hnew (by simp [Value.oneCell']) (by omega) (by unfold maxLen; omega) (by have := hwsz.out; have := hbel.size; omega) ?_
                  intro g' c' w' hown hb3 hoth
                  exact hK _ _ ⟨_, g', c', rfl, hown, (hbel.mono hwsz.out).trans hb3, hoth _ _ _ _ _ _ (by decide) HZe⟩
              · rintro aq wq ⟨z, g, c, rfl, hO⟩
                clear AA
                refine wpOp_here rfl (fun K' hK => ?_)
                go_simp
                exact hK _ _ ⟨z, g, c, rfl, hO⟩
              · rintro aq wq ⟨z, g, c, rfl, hO⟩
                obtain ⟨n4, f4⟩ := HD.out.a4.below hO.2.1 (by omega)
                refine wpOp_here rfl (fun K' hK => ?_)
                go_simp
                refine hK _ _ ?_
                refine AA _ _ ?_
                clear AA hK
                have HN3 := Lib.hid (HD.out.node (by omega) hxb.out hwb.out hev2 HMM.out.symm HEE.out.symm HX.out.symm HS0.out.symm HBD.out.symm hO.2.1 hO.1 hO.2.2)
                clear hO n4 f4
                generalize wq.setCell ⟨bb, 4, none⟩ (Value.slice (some ⟨g, 0, none⟩) (m + 1) c) = w5 at *
                go_wp2_with fail
                go_roundw
                case rel => exact ⟨k + 1, _, _, by omega, by go_num, HN3⟩
                case measure => simp [intOf]; omega
            · rw [show k % 2 = 1 by omega] at hm
              rw [if_neg hev] at hel
              have hel := of_decide_eq_true hel
              have hev2 : k % 2 = 1 := by omega
              have htd : Int.tdiv ((k : Int) + 1) 2 = (m : Int) := by rw [show (k : Int) + 1 = ((k + 1 : Nat) : Int) by omega, td2]; omega
              have h1000 : IntKind.i64.wrap (x - 1000) = x - 1000 := IntWalk.i64_in _ (by omega)
              go_upto_region 14 with fail
              rename_i KK AA
              clear hm hev HP
              refine wp_region_grow3 mixed (fun zs => { tmps := List.toArray (Value.agg #[Value.int .i64 hd, Value.string ⟨nm.toArray⟩, Value.int .i64 oi, Value.int .i64 ui, Value.slice an nl cn, Value.slice ae el ce] :: Value.slice (some ⟨pb, po, none⟩) N ac :: Value.int .i64 (q) :: Value.int .i64 (r) :: Value.pointer (some ⟨w.heap.size, 0, none⟩) :: undef :: undef :: undef :: Value.pointer (some ⟨xb, 0, none⟩) :: u9 :: Value.int .i64 ((N : Int)) :: Value.pointer (some ⟨bb, 0, none⟩) :: Value.int .i64 ((k : Int)) :: undef :: Value.slice (some ⟨pb, po, none⟩) N ac :: Value.int .i64 ((N : Int)) :: Value.int .i64 (1) :: Value.bool false :: undef :: Value.int .i64 ((N : Int)) :: Value.slice (some ⟨pb, po, none⟩) N ac :: Value.int .i64 ((N : Int)) :: Value.bool false :: u23 :: u24 :: u25 :: u26 :: u27 :: u28 :: u29 :: u30 :: u31 :: u32 :: u33 :: u34 :: u35 :: u36 :: u37 :: u38 :: u39 :: u40 :: u41 :: u42 :: u43 :: u44 :: u45 :: u46 :: u47 :: u48 :: u49 :: u50 :: u51 :: u52 :: u53 :: u54 :: Value.pointer (some ⟨w.heap.size, 0, none⟩) :: Value.int .i64 (hd) :: Value.pointer (some ⟨w.heap.size, 1, none⟩) :: Value.string ⟨nm.toArray⟩ :: Value.pointer (some ⟨w.heap.size, 2, none⟩) :: Value.int .i64 (oi) :: Value.pointer (some ⟨w.heap.size, 3, none⟩) :: Value.int .i64 (ui) :: Value.agg #[Value.int .i64 hd, Value.string ⟨nm.toArray⟩, Value.int .i64 oi, Value.int .i64 ui, Value.slice none 0 0, Value.slice none 0 0] :: Value.int .i64 ((k : Int)) :: Value.slice (some ⟨pb, po, none⟩) N ac :: Value.int .i64 ((N : Int)) :: Value.bool true :: Value.bool true :: Value.int .i64 ((k : Int)) :: Value.bool true :: Value.bool true :: u72 :: u73 :: Value.int .i64 ((k : Int)) :: Value.int .i64 (1) :: Value.bool false :: u77 :: u78 :: u79 :: u80 :: u81 :: u82 :: u83 :: u84 :: u85 :: u86 :: u87 :: u88 :: u89 :: u90 :: u91 :: u92 :: u93 :: zs.getD 0 undef :: zs.getD 1 undef :: zs.getD 2 undef :: zs.getD 3 undef :: zs.getD 4 undef :: zs.getD 5 undef :: zs.getD 6 undef :: zs.getD 7 undef :: zs.getD 8 undef :: zs.getD 9 undef :: zs.getD 10 undef :: zs.getD 11 undef :: zs.getD 12 undef :: zs.getD 13 undef :: zs.getD 14 undef :: zs.getD 15 undef :: zs.getD 16 undef :: u111 :: u112 :: undef :: undef :: undef :: undef :: undef :: undef :: []), defers := [] }) [(fun z _ => z = Value.pointer (some ⟨bb, 5, none⟩)), (fun z _ => z = Value.slice a5 e c5), (fun z _ => z = Value.slice (some ⟨pb, po, none⟩) N ac), (fun z _ => z = Value.int .i64 ((k : Int))), (fun z _ => z = Value.pointer (some ⟨pb, po + k, none⟩)), (fun z _ => z = Value.int .i64 (x)), (fun z _ => z = Value.int .i64 (x - 1000)), (fun z _ => z = Value.int .i64 (q)), (fun z _ => z = Value.int .i64 ((k : Int))), (fun z _ => z = Value.int .i64 (s0)), (fun z _ => z = Value.int .i64 ((k : Int))), (fun z _ => z = Value.int .i64 ((k : Int) + 1)), (fun z _ => z = Value.int .i64 ((m : Int))), (fun z _ => z = Value.int .i64 (r)), (fun z _ => z = Value.bool b), (fun z _ => z = Value.agg #[Value.int .i64 (x - 1000), Value.int .i64 s0, Value.bool b]), (fun z w => ∃ (B c : Nat), z = Value.slice (some ⟨B, 0, none⟩) 1 c ∧ w.heap[B]? = some (.cells #[.int .i64 (x - 1000), .int .i64 s0, .bool b] 60 (0, 0)))] [u94, u95, u96, u97, u98, u99, u100, u101, u102, u103, u104, u105, u106, u107, u108, u109, u110] (fun aq wq => ∃ (z : Value) (g c : Nat), aq = { tmps := List.toArray (Value.agg #[Value.int .i64 hd, Value.string ⟨nm.toArray⟩, Value.int .i64 oi, Value.int .i64 ui, Value.slice an nl cn, Value.slice ae el ce] :: Value.slice (some ⟨pb, po, none⟩) N ac :: Value.int .i64 (q) :: Value.int .i64 (r) :: Value.pointer (some ⟨w.heap.size, 0, none⟩) :: undef :: undef :: undef :: Value.pointer (some ⟨xb, 0, none⟩) :: u9 :: Value.int .i64 ((N : Int)) :: Value.pointer (some ⟨bb, 0, none⟩) :: Value.int .i64 ((k : Int)) :: undef :: Value.slice (some ⟨pb, po, none⟩) N ac :: Value.int .i64 ((N : Int)) :: Value.int .i64 (1) :: Value.bool false :: undef :: Value.int .i64 ((N : Int)) :: Value.slice (some ⟨pb, po, none⟩) N ac :: Value.int .i64 ((N : Int)) :: Value.bool false :: u23 :: u24 :: u25 :: u26 :: u27 :: u28 :: u29 :: u30 :: u31 :: u32 :: u33 :: u34 :: u35 :: u36 :: u37 :: u38 :: u39 :: u40 :: u41 :: u42 :: u43 :: u44 :: u45 :: u46 :: u47 :: u48 :: u49 :: u50 :: u51 :: u52 :: u53 :: u54 :: Value.pointer (some ⟨w.heap.size, 0, none⟩) :: Value.int .i64 (hd) :: Value.pointer (some ⟨w.heap.size, 1, none⟩) :: Value.string ⟨nm.toArray⟩ :: Value.pointer (some ⟨w.heap.size, 2, none⟩) :: Value.int .i64 (oi) :: Value.pointer (some ⟨w.heap.size, 3, none⟩) :: Value.int .i64 (ui) :: Value.agg #[Value.int .i64 hd, Value.string ⟨nm.toArray⟩, Value.int .i64 oi, Value.int .i64 ui, Value.slice none 0 0, Value.slice none 0 0] :: Value.int .i64 ((k : Int)) :: Value.slice (some ⟨pb, po, none⟩) N ac :: Value.int .i64 ((N : Int)) :: Value.bool true :: Value.bool true :: Value.int .i64 ((k : Int)) :: Value.bool true :: Value.bool true :: u72 :: u73 :: Value.int .i64 ((k : Int)) :: Value.int .i64 (1) :: Value.bool false :: u77 :: u78 :: u79 :: u80 :: u81 :: u82 :: u83 :: u84 :: u85 :: u86 :: u87 :: u88 :: u89 :: u90 :: u91 :: u92 :: u93 :: Value.pointer (some ⟨bb, 5, none⟩) :: Value.slice a5 e c5 :: Value.slice (some ⟨pb, po, none⟩) N ac :: Value.int .i64 ((k : Int)) :: Value.pointer (some ⟨pb, po + k, none⟩) :: Value.int .i64 (x) :: Value.int .i64 (x - 1000) :: Value.int .i64 (q) :: Value.int .i64 ((k : Int)) :: Value.int .i64 (s0) :: Value.int .i64 ((k : Int)) :: Value.int .i64 ((k : Int) + 1) :: Value.int .i64 ((m : Int)) :: Value.int .i64 (r) :: Value.bool b :: Value.agg #[Value.int .i64 (x - 1000), Value.int .i64 s0, Value.bool b] :: z :: Value.slice (some ⟨g, 0, none⟩) (e + 1) c :: u112 :: undef :: undef :: undef :: undef :: undef :: undef :: []), defers := [] } ∧ AppS 60 52 (bb + 1) e m (cellsS (edW p q r e)) (cellsS (ndW p q r m)) [.int .i64 (x - 1000), .int .i64 s0, .bool b] (Value.slice a4 m c4) wr g c wq) (fun aq wq => ∃ (z : Value) (g c : Nat), aq = { tmps := List.toArray (Value.agg #[Value.int .i64 hd, Value.string ⟨nm.toArray⟩, Value.int .i64 oi, Value.int .i64 ui, Value.slice an nl cn, Value.slice ae el ce] :: Value.slice (some ⟨pb, po, none⟩) N ac :: Value.int .i64 (q) :: Value.int .i64 (r) :: Value.pointer (some ⟨w.heap.size, 0, none⟩) :: undef :: undef :: undef :: Value.pointer (some ⟨xb, 0, none⟩) :: u9 :: Value.int .i64 ((N : Int)) :: Value.pointer (some ⟨bb, 0, none⟩) :: Value.int .i64 ((k : Int)) :: undef :: Value.slice (some ⟨pb, po, none⟩) N ac :: Value.int .i64 ((N : Int)) :: Value.int .i64 (1) :: Value.bool false :: undef :: Value.int .i64 ((N : Int)) :: Value.slice (some ⟨pb, po, none⟩) N ac :: Value.int .i64 ((N : Int)) :: Value.bool false :: u23 :: u24 :: u25 :: u26 :: u27 :: u28 :: u29 :: u30 :: u31 :: u32 :: u33 :: u34 :: u35 :: u36 :: u37 :: u38 :: u39 :: u40 :: u41 :: u42 :: u43 :: u44 :: u45 :: u46 :: u47 :: u48 :: u49 :: u50 :: u51 :: u52 :: u53 :: u54 :: Value.pointer (some ⟨w.heap.size, 0, none⟩) :: Value.int .i64 (hd) :: Value.pointer (some ⟨w.heap.size, 1, none⟩) :: Value.string ⟨nm.toArray⟩ :: Value.pointer (some ⟨w.heap.size, 2, none⟩) :: Value.int .i64 (oi) :: Value.pointer (some ⟨w.heap.size, 3, none⟩) :: Value.int .i64 (ui) :: Value.agg #[Value.int .i64 hd, Value.string ⟨nm.toArray⟩, Value.int .i64 oi, Value.int .i64 ui, Value.slice none 0 0, Value.slice none 0 0] :: Value.int .i64 ((k : Int)) :: Value.slice (some ⟨pb, po, none⟩) N ac :: Value.int .i64 ((N : Int)) :: Value.bool true :: Value.bool true :: Value.int .i64 ((k : Int)) :: Value.bool true :: Value.bool true :: u72 :: u73 :: Value.int .i64 ((k : Int)) :: Value.int .i64 (1) :: Value.bool false :: u77 :: u78 :: u79 :: u80 :: u81 :: u82 :: u83 :: u84 :: u85 :: u86 :: u87 :: u88 :: u89 :: u90 :: u91 :: u92 :: u93 :: Value.pointer (some ⟨bb, 5, none⟩) :: Value.slice a5 e c5 :: Value.slice (some ⟨pb, po, none⟩) N ac :: Value.int .i64 ((k : Int)) :: Value.pointer (some ⟨pb, po + k, none⟩) :: Value.int .i64 (x) :: Value.int .i64 (x - 1000) :: Value.int .i64 (q) :: Value.int .i64 ((k : Int)) :: Value.int .i64 (s0) :: Value.int .i64 ((k : Int)) :: Value.int .i64 ((k : Int) + 1) :: Value.int .i64 ((m : Int)) :: Value.int .i64 (r) :: Value.bool b :: Value.agg #[Value.int .i64 (x - 1000), Value.int .i64 s0, Value.bool b] :: z :: Value.slice (some ⟨g, 0, none⟩) (e + 1) c :: Value.pointer (some ⟨bb, 5, none⟩) :: undef :: undef :: undef :: undef :: undef :: undef :: []), defers := [] } ∧ AppS 60 52 (bb + 1) e m (cellsS (edW p q r e)) (cellsS (ndW p q r m)) [.int .i64 (x - 1000), .int .i64 s0, .bool b] (Value.slice a4 m c4) wr g c wq) rfl rfl rfl ?_ (by kernel_rfl) (by kernel_rfl) (by kernel_rfl) (by kernel_rfl) ?_ ?_ ?_ ?_
              · intro p hp
                simp only [List.mem_cons, List.not_mem_nil, or_false] at hp
                rcases hp with rfl | rfl | rfl | rfl | rfl | rfl | rfl | rfl | rfl | rfl | rfl | rfl | rfl | rfl | rfl | rfl | rfl
                all_goals first | exact stable_eq _ | exact stable_new _ _
              · intro i hi zs lr wz o hz hF ho hpre
                have hi' : i < 17 := hi
                clear AA
                have HZ := Lib.hid (HD.out.grow hF.bel)
                obtain ⟨n4, -⟩ := HZ.out.a5
                have hxz := (hF.bel.cell (cell_lt hx)).trans hx
                match zs, (show zs.length = 17 from hz) with
                | z0 :: z1 :: z2 :: z3 :: z4 :: z5 :: z6 :: z7 :: z8 :: z9 :: z10 :: z11 :: z12 :: z13 :: z14 :: z15 :: z16 :: [], _ =>
                  clear hz hi
                  change wpOp _ _ _ _ _ { tmps := List.toArray (Value.agg #[Value.int .i64 hd, Value.string ⟨nm.toArray⟩, Value.int .i64 oi, Value.int .i64 ui, Value.slice an nl cn, Value.slice ae el ce] :: Value.slice (some ⟨pb, po, none⟩) N ac :: Value.int .i64 (q) :: Value.int .i64 (r) :: Value.pointer (some ⟨w.heap.size, 0, none⟩) :: undef :: undef :: undef :: Value.pointer (some ⟨xb, 0, none⟩) :: u9 :: Value.int .i64 ((N : Int)) :: Value.pointer (some ⟨bb, 0, none⟩) :: Value.int .i64 ((k : Int)) :: undef :: Value.slice (some ⟨pb, po, none⟩) N ac :: Value.int .i64 ((N : Int)) :: Value.int .i64 (1) :: Value.bool false :: undef :: Value.int .i64 ((N : Int)) :: Value.slice (some ⟨pb, po, none⟩) N ac :: Value.int .i64 ((N : Int)) :: Value.bool false :: u23 :: u24 :: u25 :: u26 :: u27 :: u28 :: u29 :: u30 :: u31 :: u32 :: u33 :: u34 :: u35 :: u36 :: u37 :: u38 :: u39 :: u40 :: u41 :: u42 :: u43 :: u44 :: u45 :: u46 :: u47 :: u48 :: u49 :: u50 :: u51 :: u52 :: u53 :: u54 :: Value.pointer (some ⟨w.heap.size, 0, none⟩) :: Value.int .i64 (hd) :: Value.pointer (some ⟨w.heap.size, 1, none⟩) :: Value.string ⟨nm.toArray⟩ :: Value.pointer (some ⟨w.heap.size, 2, none⟩) :: Value.int .i64 (oi) :: Value.pointer (some ⟨w.heap.size, 3, none⟩) :: Value.int .i64 (ui) :: Value.agg #[Value.int .i64 hd, Value.string ⟨nm.toArray⟩, Value.int .i64 oi, Value.int .i64 ui, Value.slice none 0 0, Value.slice none 0 0] :: Value.int .i64 ((k : Int)) :: Value.slice (some ⟨pb, po, none⟩) N ac :: Value.int .i64 ((N : Int)) :: Value.bool true :: Value.bool true :: Value.int .i64 ((k : Int)) :: Value.bool true :: Value.bool true :: u72 :: u73 :: Value.int .i64 ((k : Int)) :: Value.int .i64 (1) :: Value.bool false :: u77 :: u78 :: u79 :: u80 :: u81 :: u82 :: u83 :: u84 :: u85 :: u86 :: u87 :: u88 :: u89 :: u90 :: u91 :: u92 :: u93 :: z0 :: z1 :: z2 :: z3 :: z4 :: z5 :: z6 :: z7 :: z8 :: z9 :: z10 :: z11 :: z12 :: z13 :: z14 :: z15 :: z16 :: u111 :: u112 :: undef :: undef :: undef :: undef :: undef :: undef :: []), defers := [] } _
                  have hc : i = 0 ∨ i = 1 ∨ i = 2 ∨ i = 3 ∨ i = 4 ∨ i = 5 ∨ i = 6 ∨ i = 7 ∨ i = 8 ∨ i = 9 ∨ i = 10 ∨ i = 11 ∨ i = 12 ∨ i = 13 ∨ i = 14 ∨ i = 15 ∨ i = 16 := by omega
                  clear hi'
                  rcases hc with rfl | rfl | rfl | rfl | rfl | rfl | rfl | rfl | rfl | rfl | rfl | rfl | rfl | rfl | rfl | rfl | rfl
                  · clear ho hpre
                    refine wpOp_here rfl (fun K' hK => ?_)
                    go_simp
                    exact hK _ _ ⟨_, rfl, Below.refl _ _, fun p hp => by cases (show some (fun z _ => z = Value.pointer (some ⟨bb, 5, none⟩)) = some p from hp); exact rfl⟩
                  · have p0 := hF.fact 0 _ _ rfl rfl (hpre ⟨0, .data⟩ (by cases ho; simp) rfl)
                    subst p0
                    clear ho hpre
                    refine wpOp_here rfl (fun K' hK => ?_)
                    go_simp
                    exact hK _ _ ⟨_, rfl, Below.refl _ _, fun p hp => by cases (show some (fun z _ => z = Value.slice a5 e c5) = some p from hp); exact rfl⟩
                  · clear ho hpre
                    refine wpOp_here rfl (fun K' hK => ?_)
                    go_simp
                    exact hK _ _ ⟨_, rfl, Below.refl _ _, fun p hp => by cases (show some (fun z _ => z = Value.slice (some ⟨pb, po, none⟩) N ac) = some p from hp); exact rfl⟩
                  · clear ho hpre
                    refine wpOp_here rfl (fun K' hK => ?_)
                    go_simp
                    exact hK _ _ ⟨_, rfl, Below.refl _ _, fun p hp => by cases (show some (fun z _ => z = Value.int .i64 ((k : Int))) = some p from hp); exact rfl⟩
                  · have p2 := hF.fact 2 _ _ rfl rfl (hpre ⟨2, .data⟩ (by cases ho; simp) rfl)
                    subst p2
                    have p3 := hF.fact 3 _ _ rfl rfl (hpre ⟨3, .data⟩ (by cases ho; simp) rfl)
                    subst p3
                    clear ho hpre
                    refine wpOp_here rfl (fun K' hK => ?_)
                    go_simp
                    exact hK _ _ ⟨_, rfl, Below.refl _ _, fun p hp => by cases (show some (fun z _ => z = Value.pointer (some ⟨pb, po + k, none⟩)) = some p from hp); exact rfl⟩
                  · have p4 := hF.fact 4 _ _ rfl rfl (hpre ⟨4, .data⟩ (by cases ho; simp) rfl)
                    subst p4
                    clear ho hpre
                    refine wpOp_here rfl (fun K' hK => ?_)
                    go_simp
                    exact hK _ _ ⟨_, rfl, Below.refl _ _, fun p hp => by cases (show some (fun z _ => z = Value.int .i64 (x)) = some p from hp); exact rfl⟩
                  · have p5 := hF.fact 5 _ _ rfl rfl (hpre ⟨5, .data⟩ (by cases ho; simp) rfl)
                    subst p5
                    clear ho hpre
                    refine wpOp_here rfl (fun K' hK => ?_)
                    go_simp
                    exact hK _ _ ⟨_, rfl, Below.refl _ _, fun p hp => by cases (show some (fun z _ => z = Value.int .i64 (x - 1000)) = some p from hp); exact rfl⟩
                  · clear ho hpre
                    refine wpOp_here rfl (fun K' hK => ?_)
                    go_simp
                    exact hK _ _ ⟨_, rfl, Below.refl _ _, fun p hp => by cases (show some (fun z _ => z = Value.int .i64 (q)) = some p from hp); exact rfl⟩
                  · clear ho hpre
                    refine wpOp_here rfl (fun K' hK => ?_)
                    go_simp
                    exact hK _ _ ⟨_, rfl, Below.refl _ _, fun p hp => by cases (show some (fun z _ => z = Value.int .i64 ((k : Int))) = some p from hp); exact rfl⟩
                  · have p7 := hF.fact 7 _ _ rfl rfl (hpre ⟨7, .data⟩ (by cases ho; simp) rfl)
                    subst p7
                    have p8 := hF.fact 8 _ _ rfl rfl (hpre ⟨8, .data⟩ (by cases ho; simp) rfl)
                    subst p8
                    clear ho hpre
                    refine wpOp_here rfl (fun K' hK => ?_)
                    go_simp
                    exact hK _ _ ⟨_, rfl, Below.refl _ _, fun p hp => by cases (show some (fun z _ => z = Value.int .i64 (s0)) = some p from hp); exact rfl⟩
                  · clear ho hpre
                    refine wpOp_here rfl (fun K' hK => ?_)
                    go_simp
                    exact hK _ _ ⟨_, rfl, Below.refl _ _, fun p hp => by cases (show some (fun z _ => z = Value.int .i64 ((k : Int))) = some p from hp); exact rfl⟩
                  · have p10 := hF.fact 10 _ _ rfl rfl (hpre ⟨10, .data⟩ (by cases ho; simp) rfl)
                    subst p10
                    clear ho hpre
                    refine wpOp_here rfl (fun K' hK => ?_)
                    go_simp
                    exact hK _ _ ⟨_, rfl, Below.refl _ _, fun p hp => by cases (show some (fun z _ => z = Value.int .i64 ((k : Int) + 1)) = some p from hp); exact rfl⟩
                  · have p11 := hF.fact 11 _ _ rfl rfl (hpre ⟨11, .data⟩ (by cases ho; simp) rfl)
                    subst p11
                    clear ho hpre
                    refine wpOp_here rfl (fun K' hK => ?_)
                    go_simp
                    exact hK _ _ ⟨_, rfl, Below.refl _ _, fun p hp => by cases (show some (fun z _ => z = Value.int .i64 ((m : Int))) = some p from hp); exact rfl⟩
                  · clear ho hpre
                    refine wpOp_here rfl (fun K' hK => ?_)
                    go_simp
                    exact hK _ _ ⟨_, rfl, Below.refl _ _, fun p hp => by cases (show some (fun z _ => z = Value.int .i64 (r)) = some p from hp); exact rfl⟩
                  · have p12 := hF.fact 12 _ _ rfl rfl (hpre ⟨12, .data⟩ (by cases ho; simp) rfl)
                    subst p12
                    have p13 := hF.fact 13 _ _ rfl rfl (hpre ⟨13, .data⟩ (by cases ho; simp) rfl)
                    subst p13
                    clear ho hpre
                    refine wpOp_here rfl (fun K' hK => ?_)
                    go_simp
                    exact hK _ _ ⟨_, rfl, Below.refl _ _, fun p hp => by cases (show some (fun z _ => z = Value.bool b) = some p from hp); exact rfl⟩
                  · have p6 := hF.fact 6 _ _ rfl rfl (hpre ⟨6, .data⟩ (by cases ho; simp) rfl)
                    subst p6
                    have p9 := hF.fact 9 _ _ rfl rfl (hpre ⟨9, .data⟩ (by cases ho; simp) rfl)
                    subst p9
                    have p14 := hF.fact 14 _ _ rfl rfl (hpre ⟨14, .data⟩ (by cases ho; simp) rfl)
                    subst p14
                    clear ho hpre
                    refine wpOp_here rfl (fun K' hK => ?_)
                    go_simp
                    exact hK _ _ ⟨_, rfl, Below.refl _ _, fun p hp => by cases (show some (fun z _ => z = Value.agg #[Value.int .i64 (x - 1000), Value.int .i64 s0, Value.bool b]) = some p from hp); exact rfl⟩
                  · have p15 := hF.fact 15 _ _ rfl rfl (hpre ⟨15, .data⟩ (by cases ho; simp) rfl)
                    subst p15
                    clear ho hpre
                    refine wpOp_here rfl (fun K' hK => ?_)
                    go_simp
                    exact hK _ _ ⟨_, rfl, (Below.refl _ _).alloc (Nat.le_refl _) _, fun p hp => by cases (show some (fun z w => ∃ (B c : Nat), z = Value.slice (some ⟨B, 0, none⟩) 1 c ∧ w.heap[B]? = some (.cells #[.int .i64 (x - 1000), .int .i64 s0, .bool b] 60 (0, 0))) = some p from hp); exact ⟨_, _, rfl, heap_alloc_new _ _⟩⟩
              · intro zs wz hz hbel hev
                match zs, (show zs.length = 17 from hz) with
                | z0 :: z1 :: z2 :: z3 :: z4 :: z5 :: z6 :: z7 :: z8 :: z9 :: z10 :: z11 :: z12 :: z13 :: z14 :: z15 :: z16 :: [], _ =>
                  have p0 := hev 0 _ _ rfl rfl
                  have p1 := hev 1 _ _ rfl rfl
                  have p2 := hev 2 _ _ rfl rfl
                  have p3 := hev 3 _ _ rfl rfl
                  have p4 := hev 4 _ _ rfl rfl
                  have p5 := hev 5 _ _ rfl rfl
                  have p6 := hev 6 _ _ rfl rfl
                  have p7 := hev 7 _ _ rfl rfl
                  have p8 := hev 8 _ _ rfl rfl
                  have p9 := hev 9 _ _ rfl rfl
                  have p10 := hev 10 _ _ rfl rfl
                  have p11 := hev 11 _ _ rfl rfl
                  have p12 := hev 12 _ _ rfl rfl
                  have p13 := hev 13 _ _ rfl rfl
                  have p14 := hev 14 _ _ rfl rfl
                  have p15 := hev 15 _ _ rfl rfl
                  have p16 := hev 16 _ _ rfl rfl
                  subst p0 p1 p2 p3 p4 p5 p6 p7 p8 p9 p10 p11 p12 p13 p14 p15
                  clear hz hev
                  clear AA
                  obtain ⟨B0, cB, rfl, hnew⟩ := p16
                  have HZ := HD.out.grow hbel
                  have HZn := HZ.nodes
                  rw [HMM.out] at HZn
                  have HZe := HZ.edges
                  rw [HEE.out] at HZe
                  refine wpOp_here rfl (fun K' hK => ?_)
                  refine step_append rfl _ _ rfl way_info rfl (by decide) Try.underlying23 (bb + 1) _ e _ rfl HZe B0 _ rfl [.int .i64 (x - 1000), .int .i64 s0, .bool b] rfl hnew (by simp [Value.oneCell']) (by omega) (by unfold maxLen; omega) (by have := hwsz.out; have := hbel.size; omega) ?_
                  intro g' c' w' hown hb3 hoth
                  exact hK _ _ ⟨_, g', c', rfl, hown, (hbel.mono hwsz.out).trans hb3, hoth _ _ _ _ _ _ (by decide) HZn⟩
              · rintro aq wq ⟨z, g, c, rfl, hO⟩
                clear AA
                refine wpOp_here rfl (fun K' hK => ?_)
                go_simp
                exact hK _ _ ⟨z, g, c, rfl, hO⟩
              · rintro aq wq ⟨z, g, c, rfl, hO⟩
                obtain ⟨n4, f4⟩ := HD.out.a5.below hO.2.1 (by omega)
                refine wpOp_here rfl (fun K' hK => ?_)
                go_simp
                refine hK _ _ ?_
                refine AA _ _ ?_
                clear AA hK
                have HN3 := Lib.hid (HD.out.edge (by omega) hxb.out hwb.out hev2 HMM.out.symm HEE.out.symm HX.out.symm HS0.out.symm HBD.out.symm hO.2.1 hO.1 hO.2.2)
                clear hO n4 f4
                generalize wq.setCell ⟨bb, 5, none⟩ (Value.slice (some ⟨g, 0, none⟩) (e + 1) c) = w5 at *
                go_wp2_with fail
                go_roundw
                case rel => exact ⟨k + 1, _, _, by omega, by go_num, HN3⟩
                case measure => simp [intOf]; omega
          · by_cases hkN : k < N
            · have hkN1 : (k : Int) < (N : Int) := by omega
              have hk7 : ¬ (k : Int) < 127 := by omega
              clear hkN
              have hke : k = min N 127 := by omega
              have HXO := Lib.hid (HD.out.o (by rw [HN.out]; exact hke) HPB.out hI q0 q1 q2 q3)
              obtain ⟨a4, c4, rfl⟩ := row_form HD.out.nodes
              obtain ⟨a5, c5, rfl⟩ := row_form HD.out.edges
              obtain ⟨m, HMM⟩ : ∃ m, Hid ((k + 1) / 2 = m) := ⟨(k + 1) / 2, Lib.hid rfl⟩
              obtain ⟨e, HEE⟩ : ∃ e, Hid (k / 2 = e) := ⟨k / 2, Lib.hid rfl⟩
              unfold oV at HXO
              have d0 := HD.out.a0.1
              have d1 := HD.out.a1.1
              have d2 := HD.out.a2.1
              have d3 := HD.out.a3.1
              have d4 := HD.out.a4.1
              have d5 := HD.out.a5.1
              rw [HMM.out] at HXO d4
              rw [HEE.out] at HXO d5
              have HCR := Lib.hid (rright8_any _ _ _ wr HXO.out)
              generalize overW hd nm oi ui p q r = X at *
              clear hc hlt hke HP
              cases hR : rightO Tp.nameB X with
              | true =>
                rw [hR] at HCR
                rw [hR, if_pos rfl] at HQ
                go_wp2_with (go_at_call 35; (with_reducible refine (HCR.out).mono ?_); rintro e1 wz3 ⟨rfl, hb3⟩; have HB3 := Lib.hid hb3; have HRS := Lib.hid (fun j v h => (HD.out.res j v h).grow hb3); replace d0 := (hb3.cell (cell_lt d0)).trans d0; replace d1 := (hb3.cell (cell_lt d1)).trans d1; replace d2 := (hb3.cell (cell_lt d2)).trans d2; replace d3 := (hb3.cell (cell_lt d3)).trans d3; replace d4 := (hb3.cell (cell_lt d4)).trans d4; replace d5 := (hb3.cell (cell_lt d5)).trans d5; obtain ⟨x0, g0⟩ := HRS.out 0 _ rfl; obtain ⟨x1, g1⟩ := HRS.out 1 _ rfl; obtain ⟨x2, g2⟩ := HRS.out 2 _ rfl; obtain ⟨x3, g3⟩ := HRS.out 3 _ rfl; obtain ⟨x4, g4⟩ := HRS.out 4 _ rfl; obtain ⟨x5, g5⟩ := HRS.out 5 _ rfl; clear hb3)
                obtain ⟨z0, z1, z2, z3, z4, z5⟩ := zero_six HRS.out (.int .i64 hd) (.string ⟨nm.toArray⟩) (.int .i64 oi) (.int .i64 ui) (.slice a4 m c4) (.slice a5 e c5)
                have hbl : Below w.heap.size w (set6 wz3 xb (.int .i64 hd) (.string ⟨nm.toArray⟩) (.int .i64 oi) (.int .i64 ui) (.slice a4 m c4) (.slice a5 e c5)) := set6_below (HD.out.bel.trans (HB3.out.mono HD.out.bel.size)) (Nat.le_of_lt HLX.out.1) _ _ _ _ _ _
                have hko : ∀ k, bb + 1 ≤ k → k < wr.heap.size → (set6 wz3 xb (.int .i64 hd) (.string ⟨nm.toArray⟩) (.int .i64 oi) (.int .i64 ui) (.slice a4 m c4) (.slice a5 e c5)).heap[k]? = wr.heap[k]? := fun k h1 h2 => (set6_block _ (by have := HLX.out.2; omega) _ _ _ _ _ _).trans (HB3.out.block k h2)
                have hsz6 := (set6_below (n := 0) (Below.refl 0 wz3) (Nat.zero_le xb) (.int .i64 hd) (.string ⟨nm.toArray⟩) (.int .i64 oi) (.int .i64 ui) (.slice a4 m c4) (.slice a5 e c5)).size
                unfold set6 at z0 z1 z2 z3 z4 z5 hbl hko hsz6
                generalize (((((wz3.setCell ⟨xb, 0, none⟩ (.int .i64 hd)).setCell ⟨xb, 1, none⟩ (.string ⟨nm.toArray⟩)).setCell ⟨xb, 2, none⟩ (.int .i64 oi)).setCell ⟨xb, 3, none⟩ (.int .i64 ui)).setCell ⟨xb, 4, none⟩ (.slice a4 m c4)).setCell ⟨xb, 5, none⟩ (.slice a5 e c5) = w6 at *
                refine bodyPost_ret (v := .tuple #[.agg #[.int .i64 hd, .string ⟨nm.toArray⟩, .int .i64 oi, .int .i64 ui, .slice a4 m c4, .slice a5 e c5], .bool true]) (by simp [results, Try.f13, go_sem, z0, z1, z2, z3, z4, z5]) rfl ?_
                rw [← HQ.out]
                exact ⟨_, rfl, HXO.out.keep (fun b h hl => ⟨Nat.le_trans (Nat.le_of_lt (Nat.lt_trans HLX.out.1 HLX.out.2)) (Nat.le_trans (Nat.le_succ _) h.1), h.2.keep (hko b h.1 hl)⟩) (fun b h1 h2 => hko b h1.1 h2) (Nat.le_trans HB3.out.size hsz6), hbl⟩
              | false =>
                rw [hR] at HCR
                rw [hR, if_neg (by decide)] at HQ
                go_wp2_with (go_at_call 35; (with_reducible refine (HCR.out).mono ?_); rintro e1 wz3 ⟨rfl, hb3⟩; have HB3 := Lib.hid hb3; have HRS := Lib.hid (fun j v h => (HD.out.res j v h).grow hb3); replace d0 := (hb3.cell (cell_lt d0)).trans d0; replace d1 := (hb3.cell (cell_lt d1)).trans d1; replace d2 := (hb3.cell (cell_lt d2)).trans d2; replace d3 := (hb3.cell (cell_lt d3)).trans d3; replace d4 := (hb3.cell (cell_lt d4)).trans d4; replace d5 := (hb3.cell (cell_lt d5)).trans d5; obtain ⟨x0, g0⟩ := HRS.out 0 _ rfl; obtain ⟨x1, g1⟩ := HRS.out 1 _ rfl; obtain ⟨x2, g2⟩ := HRS.out 2 _ rfl; obtain ⟨x3, g3⟩ := HRS.out 3 _ rfl; obtain ⟨x4, g4⟩ := HRS.out 4 _ rfl; obtain ⟨x5, g5⟩ := HRS.out 5 _ rfl; clear hb3)
                obtain ⟨z0, z1, z2, z3, z4, z5⟩ := zero_six HRS.out (.int .i64 0) (.string ⟨#[]⟩) (.int .i64 0) (.int .i64 0) (.slice none 0 0) (.slice none 0 0)
                have hbl : Below w.heap.size w (set6 wz3 xb (.int .i64 0) (.string ⟨#[]⟩) (.int .i64 0) (.int .i64 0) (.slice none 0 0) (.slice none 0 0)) := set6_below (HD.out.bel.trans (HB3.out.mono HD.out.bel.size)) (Nat.le_of_lt HLX.out.1) _ _ _ _ _ _
                have hko : ∀ k, bb + 1 ≤ k → k < wr.heap.size → (set6 wz3 xb (.int .i64 0) (.string ⟨#[]⟩) (.int .i64 0) (.int .i64 0) (.slice none 0 0) (.slice none 0 0)).heap[k]? = wr.heap[k]? := fun k h1 h2 => (set6_block _ (by have := HLX.out.2; omega) _ _ _ _ _ _).trans (HB3.out.block k h2)
                have hsz6 := (set6_below (n := 0) (Below.refl 0 wz3) (Nat.zero_le xb) (.int .i64 0) (.string ⟨#[]⟩) (.int .i64 0) (.int .i64 0) (.slice none 0 0) (.slice none 0 0)).size
                unfold set6 at z0 z1 z2 z3 z4 z5 hbl hko hsz6
                generalize (((((wz3.setCell ⟨xb, 0, none⟩ (.int .i64 0)).setCell ⟨xb, 1, none⟩ (.string ⟨#[]⟩)).setCell ⟨xb, 2, none⟩ (.int .i64 0)).setCell ⟨xb, 3, none⟩ (.int .i64 0)).setCell ⟨xb, 4, none⟩ (.slice none 0 0)).setCell ⟨xb, 5, none⟩ (.slice none 0 0) = w6 at *
                refine bodyPost_ret (v := .tuple #[.agg #[.int .i64 0, .string ⟨#[]⟩, .int .i64 0, .int .i64 0, .slice none 0 0, .slice none 0 0], .bool false]) (by simp [results, Try.f13, go_sem, z0, z1, z2, z3, z4, z5]) rfl ?_
                rw [← HQ.out]
                exact ⟨_, rfl, o0_at, hbl⟩
            · have hkN1 : ¬ (k : Int) < (N : Int) := by omega
              have hke : k = min N 127 := by omega
              have HXO := Lib.hid (HD.out.o (by rw [HN.out]; exact hke) HPB.out hI q0 q1 q2 q3)
              obtain ⟨a4, c4, rfl⟩ := row_form HD.out.nodes
              obtain ⟨a5, c5, rfl⟩ := row_form HD.out.edges
              obtain ⟨m, HMM⟩ : ∃ m, Hid ((k + 1) / 2 = m) := ⟨(k + 1) / 2, Lib.hid rfl⟩
              obtain ⟨e, HEE⟩ : ∃ e, Hid (k / 2 = e) := ⟨k / 2, Lib.hid rfl⟩
              unfold oV at HXO
              have d0 := HD.out.a0.1
              have d1 := HD.out.a1.1
              have d2 := HD.out.a2.1
              have d3 := HD.out.a3.1
              have d4 := HD.out.a4.1
              have d5 := HD.out.a5.1
              rw [HMM.out] at HXO d4
              rw [HEE.out] at HXO d5
              have HCR := Lib.hid (rright8_any _ _ _ wr HXO.out)
              generalize overW hd nm oi ui p q r = X at *
              clear hc hlt hke HP
              clear hkN
              cases hR : rightO Tp.nameB X with
              | true =>
                rw [hR] at HCR
                rw [hR, if_pos rfl] at HQ
                go_wp2_with (go_at_call 35; (with_reducible refine (HCR.out).mono ?_); rintro e1 wz3 ⟨rfl, hb3⟩; have HB3 := Lib.hid hb3; have HRS := Lib.hid (fun j v h => (HD.out.res j v h).grow hb3); replace d0 := (hb3.cell (cell_lt d0)).trans d0; replace d1 := (hb3.cell (cell_lt d1)).trans d1; replace d2 := (hb3.cell (cell_lt d2)).trans d2; replace d3 := (hb3.cell (cell_lt d3)).trans d3; replace d4 := (hb3.cell (cell_lt d4)).trans d4; replace d5 := (hb3.cell (cell_lt d5)).trans d5; obtain ⟨x0, g0⟩ := HRS.out 0 _ rfl; obtain ⟨x1, g1⟩ := HRS.out 1 _ rfl; obtain ⟨x2, g2⟩ := HRS.out 2 _ rfl; obtain ⟨x3, g3⟩ := HRS.out 3 _ rfl; obtain ⟨x4, g4⟩ := HRS.out 4 _ rfl; obtain ⟨x5, g5⟩ := HRS.out 5 _ rfl; clear hb3)
                obtain ⟨z0, z1, z2, z3, z4, z5⟩ := zero_six HRS.out (.int .i64 hd) (.string ⟨nm.toArray⟩) (.int .i64 oi) (.int .i64 ui) (.slice a4 m c4) (.slice a5 e c5)
                have hbl : Below w.heap.size w (set6 wz3 xb (.int .i64 hd) (.string ⟨nm.toArray⟩) (.int .i64 oi) (.int .i64 ui) (.slice a4 m c4) (.slice a5 e c5)) := set6_below (HD.out.bel.trans (HB3.out.mono HD.out.bel.size)) (Nat.le_of_lt HLX.out.1) _ _ _ _ _ _
                have hko : ∀ k, bb + 1 ≤ k → k < wr.heap.size → (set6 wz3 xb (.int .i64 hd) (.string ⟨nm.toArray⟩) (.int .i64 oi) (.int .i64 ui) (.slice a4 m c4) (.slice a5 e c5)).heap[k]? = wr.heap[k]? := fun k h1 h2 => (set6_block _ (by have := HLX.out.2; omega) _ _ _ _ _ _).trans (HB3.out.block k h2)
                have hsz6 := (set6_below (n := 0) (Below.refl 0 wz3) (Nat.zero_le xb) (.int .i64 hd) (.string ⟨nm.toArray⟩) (.int .i64 oi) (.int .i64 ui) (.slice a4 m c4) (.slice a5 e c5)).size
                unfold set6 at z0 z1 z2 z3 z4 z5 hbl hko hsz6
                generalize (((((wz3.setCell ⟨xb, 0, none⟩ (.int .i64 hd)).setCell ⟨xb, 1, none⟩ (.string ⟨nm.toArray⟩)).setCell ⟨xb, 2, none⟩ (.int .i64 oi)).setCell ⟨xb, 3, none⟩ (.int .i64 ui)).setCell ⟨xb, 4, none⟩ (.slice a4 m c4)).setCell ⟨xb, 5, none⟩ (.slice a5 e c5) = w6 at *
                refine bodyPost_ret (v := .tuple #[.agg #[.int .i64 hd, .string ⟨nm.toArray⟩, .int .i64 oi, .int .i64 ui, .slice a4 m c4, .slice a5 e c5], .bool true]) (by simp [results, Try.f13, go_sem, z0, z1, z2, z3, z4, z5]) rfl ?_
                rw [← HQ.out]
                exact ⟨_, rfl, HXO.out.keep (fun b h hl => ⟨Nat.le_trans (Nat.le_of_lt (Nat.lt_trans HLX.out.1 HLX.out.2)) (Nat.le_trans (Nat.le_succ _) h.1), h.2.keep (hko b h.1 hl)⟩) (fun b h1 h2 => hko b h1.1 h2) (Nat.le_trans HB3.out.size hsz6), hbl⟩
              | false =>
                rw [hR] at HCR
                rw [hR, if_neg (by decide)] at HQ
                go_wp2_with (go_at_call 35; (with_reducible refine (HCR.out).mono ?_); rintro e1 wz3 ⟨rfl, hb3⟩; have HB3 := Lib.hid hb3; have HRS := Lib.hid (fun j v h => (HD.out.res j v h).grow hb3); replace d0 := (hb3.cell (cell_lt d0)).trans d0; replace d1 := (hb3.cell (cell_lt d1)).trans d1; replace d2 := (hb3.cell (cell_lt d2)).trans d2; replace d3 := (hb3.cell (cell_lt d3)).trans d3; replace d4 := (hb3.cell (cell_lt d4)).trans d4; replace d5 := (hb3.cell (cell_lt d5)).trans d5; obtain ⟨x0, g0⟩ := HRS.out 0 _ rfl; obtain ⟨x1, g1⟩ := HRS.out 1 _ rfl; obtain ⟨x2, g2⟩ := HRS.out 2 _ rfl; obtain ⟨x3, g3⟩ := HRS.out 3 _ rfl; obtain ⟨x4, g4⟩ := HRS.out 4 _ rfl; obtain ⟨x5, g5⟩ := HRS.out 5 _ rfl; clear hb3)
                obtain ⟨z0, z1, z2, z3, z4, z5⟩ := zero_six HRS.out (.int .i64 0) (.string ⟨#[]⟩) (.int .i64 0) (.int .i64 0) (.slice none 0 0) (.slice none 0 0)
                have hbl : Below w.heap.size w (set6 wz3 xb (.int .i64 0) (.string ⟨#[]⟩) (.int .i64 0) (.int .i64 0) (.slice none 0 0) (.slice none 0 0)) := set6_below (HD.out.bel.trans (HB3.out.mono HD.out.bel.size)) (Nat.le_of_lt HLX.out.1) _ _ _ _ _ _
                have hko : ∀ k, bb + 1 ≤ k → k < wr.heap.size → (set6 wz3 xb (.int .i64 0) (.string ⟨#[]⟩) (.int .i64 0) (.int .i64 0) (.slice none 0 0) (.slice none 0 0)).heap[k]? = wr.heap[k]? := fun k h1 h2 => (set6_block _ (by have := HLX.out.2; omega) _ _ _ _ _ _).trans (HB3.out.block k h2)
                have hsz6 := (set6_below (n := 0) (Below.refl 0 wz3) (Nat.zero_le xb) (.int .i64 0) (.string ⟨#[]⟩) (.int .i64 0) (.int .i64 0) (.slice none 0 0) (.slice none 0 0)).size
                unfold set6 at z0 z1 z2 z3 z4 z5 hbl hko hsz6
                generalize (((((wz3.setCell ⟨xb, 0, none⟩ (.int .i64 0)).setCell ⟨xb, 1, none⟩ (.string ⟨#[]⟩)).setCell ⟨xb, 2, none⟩ (.int .i64 0)).setCell ⟨xb, 3, none⟩ (.int .i64 0)).setCell ⟨xb, 4, none⟩ (.slice none 0 0)).setCell ⟨xb, 5, none⟩ (.slice none 0 0) = w6 at *
                refine bodyPost_ret (v := .tuple #[.agg #[.int .i64 0, .string ⟨#[]⟩, .int .i64 0, .int .i64 0, .slice none 0 0, .slice none 0 0], .bool false]) (by simp [results, Try.f13, go_sem, z0, z1, z2, z3, z4, z5]) rfl ?_
                rw [← HQ.out]
                exact ⟨_, rfl, o0_at, hbl⟩
  · have hrem : Int.tmod (N : Int) 2 = 0 := by rw [tm2, show N % 2 = 0 by omega]; rfl
    have hr : orderS Tp.nameB hd nm oi ui p q r = (o0, false) := by
      unfold orderS
      rw [show pathB p = false by unfold pathB; rw [decide_eq_false (by rw [HN.out]; exact hodd)]; rfl]
      rfl
    rw [hr] at HQ
    go_enter Try.func13, Try.ntmps13
    go_upto_region 1 with fail
    rw [HWB.out]
    go_wp2_with fail
    obtain ⟨z0, z1, z2, z3, z4, z5⟩ := zero_six HX1.out (.int .i64 0) (.string ⟨#[]⟩) (.int .i64 0) (.int .i64 0) (.slice none 0 0) (.slice none 0 0)
    have hbl : Below w.heap.size w (set6 wb (w.heap.size + 1) (.int .i64 0) (.string ⟨#[]⟩) (.int .i64 0) (.int .i64 0) (.slice none 0 0) (.slice none 0 0)) := set6_below HB1.out (by omega) _ _ _ _ _ _
    unfold set6 at z0 z1 z2 z3 z4 z5 hbl
    generalize (((((wb.setCell ⟨w.heap.size + 1, 0, none⟩ (.int .i64 0)).setCell ⟨w.heap.size + 1, 1, none⟩ (.string ⟨#[]⟩)).setCell ⟨w.heap.size + 1, 2, none⟩ (.int .i64 0)).setCell ⟨w.heap.size + 1, 3, none⟩ (.int .i64 0)).setCell ⟨w.heap.size + 1, 4, none⟩ (.slice none 0 0)).setCell ⟨w.heap.size + 1, 5, none⟩ (.slice none 0 0) = w6 at *
    refine bodyPost_ret (v := .tuple #[.agg #[.int .i64 0, .string ⟨#[]⟩, .int .i64 0, .int .i64 0, .slice none 0 0, .slice none 0 0], .bool false]) (by simp [results, Try.f13, go_sem, z0, z1, z2, z3, z4, z5]) rfl ?_
    rw [← HQ.out]
    exact ⟨_, rfl, o0_at, hbl⟩
end Go.Proofs.Ytnpbkjmlmdpggaa.Wk
