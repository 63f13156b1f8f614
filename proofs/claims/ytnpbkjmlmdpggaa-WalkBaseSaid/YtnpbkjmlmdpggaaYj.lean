import Derived.Test.YtnpbkjmlmdpggaaYi
/- Fit: a right layout of raw numbers. -/
set_option linter.unusedVariables false
set_option linter.unusedSimpArgs false
namespace Go.Proofs.Ytnpbkjmlmdpggaa.Ly
open Go.RowKit

def i64B (n : Int) : Prop := -9223372036854775808 ≤ n ∧ n ≤ 9223372036854775807
def RawB (l : List Ed) : Prop := ∀ i, i < l.length → i64B (ate l i).1 ∧ i64B (ate l i).2.1 ∧ i64B (ate l i).2.2
theorem own_setRow {w : World} {base : Nat} {e : TypeId} {size n : Nat} {v : Value} {xs : List Value} (h : w.ownsRow base e size v n xs) {g : Nat} (hg : g < base) (cs : Array Value) : (w.setRow g cs).ownsRow base e size v n xs := by
  refine ⟨h.1, ?_⟩
  rcases h.2 with hn | ⟨b, cap, cur, hv, hbg, hh, hr⟩
  · exact .inl hn
  · exact .inr ⟨b, cap, cur, hv, hbg, (setRow_other w g b cs (by omega)).trans hh, hr⟩
/-- An edge's box that was made. -/
def NewV (B : Nat) (z : Value) (w : World) : Prop := ∃ b, z = .pointer (some ⟨b, 0, none⟩) ∧ B ≤ b ∧ w.heap[b]? = some (.cells #[.int .i64 0, .int .i64 0, .int .i64 0] 54 (0, 0))
theorem NewV.stable (B : Nat) : Stable (NewV B) := fun z w w' ⟨b, hz, h1, hb⟩ hB => ⟨b, hz, h1, (hB.block b (Array.getElem?_eq_some_iff.1 hb).1).trans hb⟩
/-- Between the rounds of Fit's loop. -/
structure FI (n : Int) (v : Value) (es : List Ed) (w wr : World) : Prop where
  below : Below w.heap.size w wr
  res : wr.heap[w.heap.size]? = some (.cells #[.int .i64 0, .slice none 0 0] 32 (0, 0))
  box : wr.heap[w.heap.size + 1]? = some (.cells #[.int .i64 n, v] 32 (0, 0))
  row : wr.ownsRow (w.heap.size + 1 + 1) 54 3 v es.length (flatE es)
theorem FI.lt {n : Int} {v : Value} {es : List Ed} {w wr : World} (h : FI n v es w wr) : w.heap.size + 1 < wr.heap.size := (Array.getElem?_eq_some_iff.1 h.box).1
theorem FI.c0 {n : Int} {v : Value} {es : List Ed} {w wr : World} (h : FI n v es w wr) : wr.cell? ⟨w.heap.size + 1, 0, none⟩ = some (.int .i64 n) := by rw [cell_of_row _ _ 0 _ _ _ h.box]; rfl
theorem FI.c1 {n : Int} {v : Value} {es : List Ed} {w wr : World} (h : FI n v es w wr) : wr.cell? ⟨w.heap.size + 1, 1, none⟩ = some v := by rw [cell_of_row _ _ 1 _ _ _ h.box]; rfl
theorem own_below {w w' : World} {base : Nat} {e : TypeId} {size n : Nat} {v : Value} {xs : List Value} (h : w.ownsRow base e size v n xs) (hb : Below w.heap.size w w') : w'.ownsRow base e size v n xs := by
  refine ⟨h.1, ?_⟩
  rcases h.2 with hn | ⟨g, cap, cur, hv, hbg, hg, hr⟩
  · exact .inl hn
  · exact .inr ⟨g, cap, cur, hv, hbg, (hb.block g (Array.getElem?_eq_some_iff.1 hg).1).trans hg, hr⟩
theorem FI.grow {n : Int} {v : Value} {es : List Ed} {w wr wr' : World} (h : FI n v es w wr) (hb : Below wr.heap.size wr wr') : FI n v es w wr' := by
  have hl := h.lt
  exact ⟨h.below.trans (hb.mono h.below.size), (hb.block _ (by omega)).trans h.res, (hb.block _ hl).trans h.box, own_below h.row hb⟩
theorem FI.step {n : Int} {v v' : Value} {es : List Ed} {e : Ed} {w wX w4 : World} (h : FI n v es w wX) (hb : Below (w.heap.size + 1 + 1) wX w4) (ho : w4.ownsRow (w.heap.size + 1 + 1) 54 3 v' (es.length + 1) (flatE (es ++ [e]))) :
    FI n v' (es ++ [e]) w (w4.setCell ⟨w.heap.size + 1, 1, none⟩ v') := by
  have hl := h.lt
  have hbx := (hb.block (w.heap.size + 1) (by omega)).trans h.box
  refine ⟨(h.below.trans (hb.mono (by omega))).setCell (by show w.heap.size ≤ w.heap.size + 1; omega) _, ?_, ?_, ?_⟩
  · rw [heap_setCell_other _ _ _ _ (by show w.heap.size ≠ w.heap.size + 1; omega)]
    exact (hb.block _ (by omega)).trans h.res
  · rw [heap_setCell_same _ _ 1 _ _ v' hbx]
    rfl
  · rw [List.length_append]
    exact ownsRow_setCell_below ho (by show w.heap.size + 1 < _; omega) _
theorem FI.edges {n : Int} {v : Value} {es : List Ed} {w wr : World} (h : FI n v es w wr) (hl : es.length ≤ 24) : EdgesAt wr v es := edges_own h.row rfl (by omega)
theorem FI.start (n : Int) (w : World) : FI n (.slice none 0 0) [] w ((w.alloc (.cells #[.int .i64 0, .slice none 0 0] 32)).alloc (.cells #[.int .i64 n, .slice none 0 0] 32)) :=
  ⟨((Below.refl _ w).alloc (Nat.le_refl _) _).alloc (by simp) _, heap_alloc2_old w _ _, heap_alloc2_new w _ _, World.ownsRow_nil _ _ _ _⟩
/-- Edges of small costs. -/
def Cheap (es : List Ed) : Prop := ∀ i, i < es.length → (ate es i).2.2 ≤ 9
/-- What Fit answers. -/
def RetFit (n : Int) (w : World) (e : Ending) (w' : World) : Prop := ∃ v es, e = .returned (.agg #[.int .i64 n, v]) ∧ RightL n es ∧ es.length ≤ 24 ∧ EdgesAt w' v es ∧ Below w.heap.size w w' ∧ Cheap es
set_option maxRecDepth 100000 in
set_option maxHeartbeats 16000000 in
theorem fit_any {w : World} (a : Int) (ha : i64B a) (rv : Value) (L : List Ed) (hL : EdgesAt w rv L) (hB : RawB L) :
    Calls Try.prog 10 #[.int .i64 a, rv] w (RetFit (1 + pickS a 8) w) := by
  obtain ⟨ro, rc, rfl, hl, hc⟩ := hL
  have HC := Lib.hid hc
  have C0 := Lib.hid (fun w' => pick_any a 8 w' ha.1 ha.2 (by omega) (by omega))
  have p0 := pickS_nonneg (c := a) (n := 8) (by omega)
  have p1 := pickS_lt (c := a) (n := 8) (by omega)
  have HRB := Lib.hid hB
  clear hc hB ha
  generalize pickS a 8 = pa at *
  obtain ⟨Q, HQ⟩ : ∃ Q, Hid (RetFit (1 + pa) w = Q) := ⟨_, rfl⟩
  rw [HQ.out]
  have HS := Lib.hid (FI.start (1 + pa) w)
  obtain ⟨n, hn⟩ : ∃ n, 1 + pa = n := ⟨_, rfl⟩
  rw [hn] at HS HQ
  have n1 : 1 ≤ n := by omega
  have n8 : n ≤ 8 := by omega
  go_enter Try.func10, Try.ntmps10
  go_upto_region 2 with (go_at_call 29; (with_reducible refine (C0.out _).mono ?_); rintro e w1 ⟨rfl, rfl⟩)
  have HN := Lib.hid hn
  clear hn p0 p1 C0
  generalize (w.alloc (.cells #[.int .i64 0, .slice none 0 0] 32)).alloc (.cells #[.int .i64 n, .slice none 0 0] 32) = w1 at *
  go_wp2
  go_loopw [6] (fun i wr => ∃ (q : Nat) (es : List Ed) (v : Value), q ≤ L.length ∧ i = .int .i64 q ∧ es.length ≤ 24 ∧ Hid (FI n v es w wr) ∧ Hid (RightTo n es es.length) ∧ Hid (Cheap es)) (fun i _ => L.length - (intOf i).toNat)
  case atStart => exact ⟨0, [], _, Nat.zero_le _, rfl, by simp, HS, RightTo.zero n [], fun i hi => absurd hi (by simp)⟩
  case round =>
    obtain ⟨q, es, v, hq, rfl, hes, HI, HR, HCH⟩ := hrel
    have c0 := HI.out.c0
    have c1 := HI.out.c1
    obtain ⟨eo, ec, hv⟩ := row_form HI.out.row
    by_cases hlt : q < L.length
    · by_cases h24 : es.length < 24
      · obtain ⟨rb, rof, rfl, lb, hcs⟩ := HC.out (by omega)
        have hE := HI.out.below
        have g0 := (hE.cell (p := ⟨rb, rof + q * 3, none⟩) lb).trans (hcs q hlt).1
        have g1 := (hE.cell (p := ⟨rb, rof + q * 3 + 1, none⟩) lb).trans (hcs q hlt).2.1
        have g2 := (hE.cell (p := ⟨rb, rof + q * 3 + 2, none⟩) lb).trans (hcs q hlt).2.2
        subst hv
        clear hcs hE
        have d24 : decide ((es.length : Int) < 24) = true := by simp; omega
        have HRq := Lib.hid (HRB.out q hlt)
        generalize (ate L q).1 = ra at *
        generalize (ate L q).2.1 = rb2 at *
        generalize (ate L q).2.2 = rc2 at *
        have CP0 := Lib.hid (fun w' => pick_any ra n w' HRq.out.1.1 HRq.out.1.2 (by omega) (by omega))
        have CP1 := Lib.hid (fun w' => pick_any rb2 n w' HRq.out.2.1.1 HRq.out.2.1.2 (by omega) (by omega))
        have CP2 := Lib.hid (fun w' => pick_any rc2 9 w' HRq.out.2.2.1 HRq.out.2.2.2 (by omega) (by omega))
        have q2 := pickS_nonneg (c := rc2) (n := 9) (by omega)
        have q3 := pickS_lt (c := rc2) (n := 9) (by omega)
        have HWR : Hid (IntKind.i64.wrap (1 + pickS rc2 9) = 1 + pickS rc2 9) := by show _ = _; rw [IntKind.wrap_i64]; omega
        have hrl : rb < wr.heap.size := by have := HI.out.below.size; omega
        have hbl := HI.out.lt
        go_upto_region 5 with fail
        rename_i K1 A1 K2 A2
--REGION
        refine wp_region_grow mixed (fun zs => { tmps := List.toArray (Value.int .i64 a :: Value.slice (some ⟨rb, rof, none⟩) L.length rc :: undef :: undef :: Value.pointer (some ⟨w.heap.size, 0, none⟩) :: Value.pointer (some ⟨w.heap.size + 1, 0, none⟩) :: Value.int .i64 ((q : Nat)) :: (zs.getD 24 undef) :: u8 :: u9 :: Value.int .i64 a :: Value.int .i64 pa :: Value.int .i64 n :: Value.agg #[Value.int .i64 n, Value.slice none 0 0] :: Value.int .i64 ((q : Nat)) :: Value.slice (some ⟨rb, rof, none⟩) L.length rc :: Value.int .i64 ((L.length : Nat)) :: Value.bool true :: Value.bool true :: Value.pointer (some ⟨w.heap.size + 1, 1, none⟩) :: Value.slice eo es.length ec :: Value.int .i64 ((es.length : Nat)) :: Value.bool true :: Value.bool true :: u24 :: u25 :: (zs.getD 0 undef) :: (zs.getD 1 undef) :: (zs.getD 2 undef) :: (zs.getD 3 undef) :: (zs.getD 4 undef) :: (zs.getD 5 undef) :: (zs.getD 6 undef) :: (zs.getD 7 undef) :: (zs.getD 8 undef) :: (zs.getD 9 undef) :: (zs.getD 10 undef) :: (zs.getD 11 undef) :: (zs.getD 12 undef) :: (zs.getD 13 undef) :: (zs.getD 14 undef) :: (zs.getD 15 undef) :: (zs.getD 16 undef) :: (zs.getD 17 undef) :: (zs.getD 18 undef) :: (zs.getD 19 undef) :: (zs.getD 20 undef) :: (zs.getD 21 undef) :: (zs.getD 22 undef) :: (zs.getD 23 undef) :: u50 :: u51 :: u52 :: u53 :: u54 :: u55 :: u56 :: u57 :: u58 :: u59 :: u60 :: u61 :: u62 :: u63 :: u64 :: u65 :: u66 :: u67 :: u68 :: u69 :: u70 :: u71 :: u72 :: u73 :: u74 :: u75 :: u76 :: u77 :: u78 :: u79 :: u80 :: u81 :: u82 :: u83 :: u84 :: u85 :: u86 :: u87 :: u88 :: u89 :: u90 :: u91 :: undef :: []), defers := [] }) [(fun z _ => z = Value.slice (some ⟨rb, rof, none⟩) L.length rc), (fun z _ => z = Value.int .i64 ((q : Nat))), (fun z _ => z = Value.pointer (some ⟨rb, rof + q * 3, none⟩)), (fun z _ => z = Value.pointer (some ⟨rb, rof + q * 3, none⟩)), (fun z _ => z = Value.int .i64 (ra)), (fun z _ => z = Value.pointer (some ⟨w.heap.size + 1, 0, none⟩)), (fun z _ => z = Value.int .i64 (n)), (fun z _ => z = Value.int .i64 (pickS ra n)), (fun z _ => z = Value.slice (some ⟨rb, rof, none⟩) L.length rc), (fun z _ => z = Value.int .i64 ((q : Nat))), (fun z _ => z = Value.pointer (some ⟨rb, rof + q * 3, none⟩)), (fun z _ => z = Value.pointer (some ⟨rb, rof + q * 3 + 1, none⟩)), (fun z _ => z = Value.int .i64 (rb2)), (fun z _ => z = Value.pointer (some ⟨w.heap.size + 1, 0, none⟩)), (fun z _ => z = Value.int .i64 (n)), (fun z _ => z = Value.int .i64 (pickS rb2 n)), (fun z _ => z = Value.slice (some ⟨rb, rof, none⟩) L.length rc), (fun z _ => z = Value.int .i64 ((q : Nat))), (fun z _ => z = Value.pointer (some ⟨rb, rof + q * 3, none⟩)), (fun z _ => z = Value.pointer (some ⟨rb, rof + q * 3 + 2, none⟩)), (fun z _ => z = Value.int .i64 (rc2)), (fun z _ => z = Value.int .i64 (pickS rc2 9)), (fun z _ => z = Value.int .i64 (1 + pickS rc2 9)), (fun z _ => z = Value.agg #[Value.int .i64 (pickS ra n), Value.int .i64 (pickS rb2 n), Value.int .i64 (1 + pickS rc2 9)]), NewV wr.heap.size] [u26, u27, u28, u29, u30, u31, u32, u33, u34, u35, u36, u37, u38, u39, u40, u41, u42, u43, u44, u45, u46, u47, u48, u49, u7] rfl rfl rfl ?_ (by kernel_rfl) (by kernel_rfl) ?_ ?_
        · intro p hp
          simp only [List.mem_cons, List.not_mem_nil, or_false] at hp
          rcases hp with rfl | rfl | rfl | rfl | rfl | rfl | rfl | rfl | rfl | rfl | rfl | rfl | rfl | rfl | rfl | rfl | rfl | rfl | rfl | rfl | rfl | rfl | rfl | rfl | rfl
          all_goals first | exact stable_eq _ | exact NewV.stable _
        · clear A1
          intro i hi zs l wz o hz hF ho hpre
          have hi' : i < 25 := hi
          have g0' := (hF.bel.cell (p := ⟨rb, rof + q * 3, none⟩) hrl).trans g0
          have g1' := (hF.bel.cell (p := ⟨rb, rof + q * 3 + 1, none⟩) hrl).trans g1
          have g2' := (hF.bel.cell (p := ⟨rb, rof + q * 3 + 2, none⟩) hrl).trans g2
          have c0' := (hF.bel.cell (p := ⟨w.heap.size + 1, 0, none⟩) hbl).trans c0
          match zs, (show zs.length = 25 from hz) with
          | z0 :: z1 :: z2 :: z3 :: z4 :: z5 :: z6 :: z7 :: z8 :: z9 :: z10 :: z11 :: z12 :: z13 :: z14 :: z15 :: z16 :: z17 :: z18 :: z19 :: z20 :: z21 :: z22 :: z23 :: z24 :: [], _ =>
            clear hz hi
            change wpOp _ _ _ _ _ { tmps := List.toArray (Value.int .i64 a :: Value.slice (some ⟨rb, rof, none⟩) L.length rc :: undef :: undef :: Value.pointer (some ⟨w.heap.size, 0, none⟩) :: Value.pointer (some ⟨w.heap.size + 1, 0, none⟩) :: Value.int .i64 ((q : Nat)) :: z24 :: u8 :: u9 :: Value.int .i64 a :: Value.int .i64 pa :: Value.int .i64 n :: Value.agg #[Value.int .i64 n, Value.slice none 0 0] :: Value.int .i64 ((q : Nat)) :: Value.slice (some ⟨rb, rof, none⟩) L.length rc :: Value.int .i64 ((L.length : Nat)) :: Value.bool true :: Value.bool true :: Value.pointer (some ⟨w.heap.size + 1, 1, none⟩) :: Value.slice eo es.length ec :: Value.int .i64 ((es.length : Nat)) :: Value.bool true :: Value.bool true :: u24 :: u25 :: z0 :: z1 :: z2 :: z3 :: z4 :: z5 :: z6 :: z7 :: z8 :: z9 :: z10 :: z11 :: z12 :: z13 :: z14 :: z15 :: z16 :: z17 :: z18 :: z19 :: z20 :: z21 :: z22 :: z23 :: u50 :: u51 :: u52 :: u53 :: u54 :: u55 :: u56 :: u57 :: u58 :: u59 :: u60 :: u61 :: u62 :: u63 :: u64 :: u65 :: u66 :: u67 :: u68 :: u69 :: u70 :: u71 :: u72 :: u73 :: u74 :: u75 :: u76 :: u77 :: u78 :: u79 :: u80 :: u81 :: u82 :: u83 :: u84 :: u85 :: u86 :: u87 :: u88 :: u89 :: u90 :: u91 :: undef :: []), defers := [] } _
            have hc : i = 0 ∨ i = 1 ∨ i = 2 ∨ i = 3 ∨ i = 4 ∨ i = 5 ∨ i = 6 ∨ i = 7 ∨ i = 8 ∨ i = 9 ∨ i = 10 ∨ i = 11 ∨ i = 12 ∨ i = 13 ∨ i = 14 ∨ i = 15 ∨ i = 16 ∨ i = 17 ∨ i = 18 ∨ i = 19 ∨ i = 20 ∨ i = 21 ∨ i = 22 ∨ i = 23 ∨ i = 24 := by omega
            clear hi'
            rcases hc with rfl | rfl | rfl | rfl | rfl | rfl | rfl | rfl | rfl | rfl | rfl | rfl | rfl | rfl | rfl | rfl | rfl | rfl | rfl | rfl | rfl | rfl | rfl | rfl | rfl
            · clear ho hpre
              refine wpOp_here rfl (fun K' hK => ?_)
              go_simp
              exact hK _ _ ⟨_, rfl, Below.refl _ _, fun p hp => by cases (show some (fun z _ => z = Value.slice (some ⟨rb, rof, none⟩) L.length rc) = some p from hp); exact rfl⟩
            · clear ho hpre
              refine wpOp_here rfl (fun K' hK => ?_)
              go_simp
              exact hK _ _ ⟨_, rfl, Below.refl _ _, fun p hp => by cases (show some (fun z _ => z = Value.int .i64 ((q : Nat))) = some p from hp); exact rfl⟩
            · have p0 := hF.fact 0 _ _ rfl rfl (hpre ⟨0, .data⟩ (by cases ho; simp) rfl)
              subst p0
              have p1 := hF.fact 1 _ _ rfl rfl (hpre ⟨1, .data⟩ (by cases ho; simp) rfl)
              subst p1
              clear ho hpre
              refine wpOp_here rfl (fun K' hK => ?_)
              go_simp
              exact hK _ _ ⟨_, rfl, Below.refl _ _, fun p hp => by cases (show some (fun z _ => z = Value.pointer (some ⟨rb, rof + q * 3, none⟩)) = some p from hp); exact rfl⟩
            · have p2 := hF.fact 2 _ _ rfl rfl (hpre ⟨2, .data⟩ (by cases ho; simp) rfl)
              subst p2
              clear ho hpre
              refine wpOp_here rfl (fun K' hK => ?_)
              go_simp
              exact hK _ _ ⟨_, rfl, Below.refl _ _, fun p hp => by cases (show some (fun z _ => z = Value.pointer (some ⟨rb, rof + q * 3, none⟩)) = some p from hp); exact rfl⟩
            · have p3 := hF.fact 3 _ _ rfl rfl (hpre ⟨3, .data⟩ (by cases ho; simp) rfl)
              subst p3
              clear ho hpre
              refine wpOp_here rfl (fun K' hK => ?_)
              go_simp
              exact hK _ _ ⟨_, rfl, Below.refl _ _, fun p hp => by cases (show some (fun z _ => z = Value.int .i64 (ra)) = some p from hp); exact rfl⟩
            · clear ho hpre
              refine wpOp_here rfl (fun K' hK => ?_)
              go_simp
              exact hK _ _ ⟨_, rfl, Below.refl _ _, fun p hp => by cases (show some (fun z _ => z = Value.pointer (some ⟨w.heap.size + 1, 0, none⟩)) = some p from hp); exact rfl⟩
            · have p5 := hF.fact 5 _ _ rfl rfl (hpre ⟨5, .data⟩ (by cases ho; simp) rfl)
              subst p5
              clear ho hpre
              refine wpOp_here rfl (fun K' hK => ?_)
              go_simp
              exact hK _ _ ⟨_, rfl, Below.refl _ _, fun p hp => by cases (show some (fun z _ => z = Value.int .i64 (n)) = some p from hp); exact rfl⟩
            · have p4 := hF.fact 4 _ _ rfl rfl (hpre ⟨4, .data⟩ (by cases ho; simp) rfl)
              subst p4
              have p6 := hF.fact 6 _ _ rfl rfl (hpre ⟨6, .data⟩ (by cases ho; simp) rfl)
              subst p6
              clear ho hpre
              refine wpOp_here rfl (fun K' hK => ?_)
              go_simp
              refine (CP0.out _).mono ?_
              rintro e6 w6' ⟨rfl, rfl⟩
              exact hK _ _ ⟨_, rfl, Below.refl _ _, fun p hp => by cases (show some (fun z _ => z = Value.int .i64 (pickS ra n)) = some p from hp); exact rfl⟩
            · clear ho hpre
              refine wpOp_here rfl (fun K' hK => ?_)
              go_simp
              exact hK _ _ ⟨_, rfl, Below.refl _ _, fun p hp => by cases (show some (fun z _ => z = Value.slice (some ⟨rb, rof, none⟩) L.length rc) = some p from hp); exact rfl⟩
            · clear ho hpre
              refine wpOp_here rfl (fun K' hK => ?_)
              go_simp
              exact hK _ _ ⟨_, rfl, Below.refl _ _, fun p hp => by cases (show some (fun z _ => z = Value.int .i64 ((q : Nat))) = some p from hp); exact rfl⟩
            · have p8 := hF.fact 8 _ _ rfl rfl (hpre ⟨8, .data⟩ (by cases ho; simp) rfl)
              subst p8
              have p9 := hF.fact 9 _ _ rfl rfl (hpre ⟨9, .data⟩ (by cases ho; simp) rfl)
              subst p9
              clear ho hpre
              refine wpOp_here rfl (fun K' hK => ?_)
              go_simp
              exact hK _ _ ⟨_, rfl, Below.refl _ _, fun p hp => by cases (show some (fun z _ => z = Value.pointer (some ⟨rb, rof + q * 3, none⟩)) = some p from hp); exact rfl⟩
            · have p10 := hF.fact 10 _ _ rfl rfl (hpre ⟨10, .data⟩ (by cases ho; simp) rfl)
              subst p10
              clear ho hpre
              refine wpOp_here rfl (fun K' hK => ?_)
              go_simp
              exact hK _ _ ⟨_, rfl, Below.refl _ _, fun p hp => by cases (show some (fun z _ => z = Value.pointer (some ⟨rb, rof + q * 3 + 1, none⟩)) = some p from hp); exact rfl⟩
            · have p11 := hF.fact 11 _ _ rfl rfl (hpre ⟨11, .data⟩ (by cases ho; simp) rfl)
              subst p11
              clear ho hpre
              refine wpOp_here rfl (fun K' hK => ?_)
              go_simp
              exact hK _ _ ⟨_, rfl, Below.refl _ _, fun p hp => by cases (show some (fun z _ => z = Value.int .i64 (rb2)) = some p from hp); exact rfl⟩
            · clear ho hpre
              refine wpOp_here rfl (fun K' hK => ?_)
              go_simp
              exact hK _ _ ⟨_, rfl, Below.refl _ _, fun p hp => by cases (show some (fun z _ => z = Value.pointer (some ⟨w.heap.size + 1, 0, none⟩)) = some p from hp); exact rfl⟩
            · have p13 := hF.fact 13 _ _ rfl rfl (hpre ⟨13, .data⟩ (by cases ho; simp) rfl)
              subst p13
              clear ho hpre
              refine wpOp_here rfl (fun K' hK => ?_)
              go_simp
              exact hK _ _ ⟨_, rfl, Below.refl _ _, fun p hp => by cases (show some (fun z _ => z = Value.int .i64 (n)) = some p from hp); exact rfl⟩
            · have p12 := hF.fact 12 _ _ rfl rfl (hpre ⟨12, .data⟩ (by cases ho; simp) rfl)
              subst p12
              have p14 := hF.fact 14 _ _ rfl rfl (hpre ⟨14, .data⟩ (by cases ho; simp) rfl)
              subst p14
              clear ho hpre
              refine wpOp_here rfl (fun K' hK => ?_)
              go_simp
              refine (CP1.out _).mono ?_
              rintro e6 w6' ⟨rfl, rfl⟩
              exact hK _ _ ⟨_, rfl, Below.refl _ _, fun p hp => by cases (show some (fun z _ => z = Value.int .i64 (pickS rb2 n)) = some p from hp); exact rfl⟩
            · clear ho hpre
              refine wpOp_here rfl (fun K' hK => ?_)
              go_simp
              exact hK _ _ ⟨_, rfl, Below.refl _ _, fun p hp => by cases (show some (fun z _ => z = Value.slice (some ⟨rb, rof, none⟩) L.length rc) = some p from hp); exact rfl⟩
            · clear ho hpre
              refine wpOp_here rfl (fun K' hK => ?_)
              go_simp
              exact hK _ _ ⟨_, rfl, Below.refl _ _, fun p hp => by cases (show some (fun z _ => z = Value.int .i64 ((q : Nat))) = some p from hp); exact rfl⟩
            · have p16 := hF.fact 16 _ _ rfl rfl (hpre ⟨16, .data⟩ (by cases ho; simp) rfl)
              subst p16
              have p17 := hF.fact 17 _ _ rfl rfl (hpre ⟨17, .data⟩ (by cases ho; simp) rfl)
              subst p17
              clear ho hpre
              refine wpOp_here rfl (fun K' hK => ?_)
              go_simp
              exact hK _ _ ⟨_, rfl, Below.refl _ _, fun p hp => by cases (show some (fun z _ => z = Value.pointer (some ⟨rb, rof + q * 3, none⟩)) = some p from hp); exact rfl⟩
            · have p18 := hF.fact 18 _ _ rfl rfl (hpre ⟨18, .data⟩ (by cases ho; simp) rfl)
              subst p18
              clear ho hpre
              refine wpOp_here rfl (fun K' hK => ?_)
              go_simp
              exact hK _ _ ⟨_, rfl, Below.refl _ _, fun p hp => by cases (show some (fun z _ => z = Value.pointer (some ⟨rb, rof + q * 3 + 2, none⟩)) = some p from hp); exact rfl⟩
            · have p19 := hF.fact 19 _ _ rfl rfl (hpre ⟨19, .data⟩ (by cases ho; simp) rfl)
              subst p19
              clear ho hpre
              refine wpOp_here rfl (fun K' hK => ?_)
              go_simp
              exact hK _ _ ⟨_, rfl, Below.refl _ _, fun p hp => by cases (show some (fun z _ => z = Value.int .i64 (rc2)) = some p from hp); exact rfl⟩
            · have p20 := hF.fact 20 _ _ rfl rfl (hpre ⟨20, .data⟩ (by cases ho; simp) rfl)
              subst p20
              clear ho hpre
              refine wpOp_here rfl (fun K' hK => ?_)
              go_simp
              refine (CP2.out _).mono ?_
              rintro e6 w6' ⟨rfl, rfl⟩
              exact hK _ _ ⟨_, rfl, Below.refl _ _, fun p hp => by cases (show some (fun z _ => z = Value.int .i64 (pickS rc2 9)) = some p from hp); exact rfl⟩
            · have p21 := hF.fact 21 _ _ rfl rfl (hpre ⟨21, .data⟩ (by cases ho; simp) rfl)
              subst p21
              clear ho hpre
              refine wpOp_here rfl (fun K' hK => ?_)
              go_simp
              rw [HWR.out]
              exact hK _ _ ⟨_, rfl, Below.refl _ _, fun p hp => by cases (show some (fun z _ => z = Value.int .i64 (1 + pickS rc2 9)) = some p from hp); exact rfl⟩
            · have p7 := hF.fact 7 _ _ rfl rfl (hpre ⟨7, .data⟩ (by cases ho; simp) rfl)
              subst p7
              have p15 := hF.fact 15 _ _ rfl rfl (hpre ⟨15, .data⟩ (by cases ho; simp) rfl)
              subst p15
              have p22 := hF.fact 22 _ _ rfl rfl (hpre ⟨22, .data⟩ (by cases ho; simp) rfl)
              subst p22
              clear ho hpre
              refine wpOp_here rfl (fun K' hK => ?_)
              go_simp
              exact hK _ _ ⟨_, rfl, Below.refl _ _, fun p hp => by cases (show some (fun z _ => z = Value.agg #[Value.int .i64 (pickS ra n), Value.int .i64 (pickS rb2 n), Value.int .i64 (1 + pickS rc2 9)]) = some p from hp); exact rfl⟩
            · clear ho hpre
              have hsz := hF.bel.size
              refine wpOp_here rfl (fun K' hK => ?_)
              go_simp
              exact hK _ _ ⟨_, rfl, (Below.refl _ _).alloc (Nat.le_refl _) _, fun p hp => by cases (show some (NewV wr.heap.size) = some p from hp); exact ⟨wz.heap.size, rfl, by omega, heap_alloc_new wz _⟩⟩
        · intro zs wz hz hbel hev
          match zs, (show zs.length = 25 from hz) with
          | z0 :: z1 :: z2 :: z3 :: z4 :: z5 :: z6 :: z7 :: z8 :: z9 :: z10 :: z11 :: z12 :: z13 :: z14 :: z15 :: z16 :: z17 :: z18 :: z19 :: z20 :: z21 :: z22 :: z23 :: z24 :: [], _ =>
            have p0 := hev 0 _ _ rfl rfl
            have p1 := hev 1 _ _ rfl rfl
            have p2 := hev 2 _ _ rfl rfl
            have p3 := hev 3 _ _ rfl rfl
            have p4 := hev 4 _ _ rfl rfl
            have p5 := hev 5 _ _ rfl rfl
            have p6 := hev 6 _ _ rfl rfl
            have p7 := hev 7 _ _ rfl rfl
            have p8 := hev 8 _ _ rfl rfl
            have p9 := hev 9 _ _ rfl rfl
            have p10 := hev 10 _ _ rfl rfl
            have p11 := hev 11 _ _ rfl rfl
            have p12 := hev 12 _ _ rfl rfl
            have p13 := hev 13 _ _ rfl rfl
            have p14 := hev 14 _ _ rfl rfl
            have p15 := hev 15 _ _ rfl rfl
            have p16 := hev 16 _ _ rfl rfl
            have p17 := hev 17 _ _ rfl rfl
            have p18 := hev 18 _ _ rfl rfl
            have p19 := hev 19 _ _ rfl rfl
            have p20 := hev 20 _ _ rfl rfl
            have p21 := hev 21 _ _ rfl rfl
            have p22 := hev 22 _ _ rfl rfl
            have p23 := hev 23 _ _ rfl rfl
            have p24 := hev 24 _ _ rfl rfl
            obtain ⟨bn, hzn, hbn, han⟩ := p24
            subst p0 p1 p2 p3 p4 p5 p6 p7 p8 p9 p10 p11 p12 p13 p14 p15 p16 p17 p18 p19 p20 p21 p22 p23 hzn
            clear hz hev
            change wpOp _ _ _ _ _ { tmps := List.toArray (Value.int .i64 a :: Value.slice (some ⟨rb, rof, none⟩) L.length rc :: undef :: undef :: Value.pointer (some ⟨w.heap.size, 0, none⟩) :: Value.pointer (some ⟨w.heap.size + 1, 0, none⟩) :: Value.int .i64 ((q : Nat)) :: Value.pointer (some ⟨bn, 0, none⟩) :: u8 :: u9 :: Value.int .i64 a :: Value.int .i64 pa :: Value.int .i64 n :: Value.agg #[Value.int .i64 n, Value.slice none 0 0] :: Value.int .i64 ((q : Nat)) :: Value.slice (some ⟨rb, rof, none⟩) L.length rc :: Value.int .i64 ((L.length : Nat)) :: Value.bool true :: Value.bool true :: Value.pointer (some ⟨w.heap.size + 1, 1, none⟩) :: Value.slice eo es.length ec :: Value.int .i64 ((es.length : Nat)) :: Value.bool true :: Value.bool true :: u24 :: u25 :: Value.slice (some ⟨rb, rof, none⟩) L.length rc :: Value.int .i64 ((q : Nat)) :: Value.pointer (some ⟨rb, rof + q * 3, none⟩) :: Value.pointer (some ⟨rb, rof + q * 3, none⟩) :: Value.int .i64 (ra) :: Value.pointer (some ⟨w.heap.size + 1, 0, none⟩) :: Value.int .i64 (n) :: Value.int .i64 (pickS ra n) :: Value.slice (some ⟨rb, rof, none⟩) L.length rc :: Value.int .i64 ((q : Nat)) :: Value.pointer (some ⟨rb, rof + q * 3, none⟩) :: Value.pointer (some ⟨rb, rof + q * 3 + 1, none⟩) :: Value.int .i64 (rb2) :: Value.pointer (some ⟨w.heap.size + 1, 0, none⟩) :: Value.int .i64 (n) :: Value.int .i64 (pickS rb2 n) :: Value.slice (some ⟨rb, rof, none⟩) L.length rc :: Value.int .i64 ((q : Nat)) :: Value.pointer (some ⟨rb, rof + q * 3, none⟩) :: Value.pointer (some ⟨rb, rof + q * 3 + 2, none⟩) :: Value.int .i64 (rc2) :: Value.int .i64 (pickS rc2 9) :: Value.int .i64 (1 + pickS rc2 9) :: Value.agg #[Value.int .i64 (pickS ra n), Value.int .i64 (pickS rb2 n), Value.int .i64 (1 + pickS rc2 9)] :: u50 :: u51 :: u52 :: u53 :: u54 :: u55 :: u56 :: u57 :: u58 :: u59 :: u60 :: u61 :: u62 :: u63 :: u64 :: u65 :: u66 :: u67 :: u68 :: u69 :: u70 :: u71 :: u72 :: u73 :: u74 :: u75 :: u76 :: u77 :: u78 :: u79 :: u80 :: u81 :: u82 :: u83 :: u84 :: u85 :: u86 :: u87 :: u88 :: u89 :: u90 :: u91 :: undef :: []), defers := [] } _
--TAIL
            have HIw := HI.out.grow (Below.setRow hbel hbn #[.int .i64 (pickS ra n), .int .i64 (pickS rb2 n), .int .i64 (1 + pickS rc2 9)])
            have hcell := setRow_heap wz bn _ #[.int .i64 (pickS ra n), .int .i64 (pickS rb2 n), .int .i64 (1 + pickS rc2 9)] 54 (0, 0) han
            refine wpOp_here rfl (fun K' hK => ?_)
            rw [if_pos (by rfl)]
            refine wp_store_row 54 _ _ rfl bn #[.int .i64 (pickS ra n), .int .i64 (pickS rb2 n), .int .i64 (1 + pickS rc2 9)] rfl rfl 54 _ han (by kernel_rfl) rfl (by simp [Value.oneCell']) ?_
            refine hK _ _ ?_
            clear hK han hbel
            have f0 := pickS_nonneg (c := ra) (n := n) (by omega)
            have f1 := pickS_lt (c := ra) (n := n) (by omega)
            have h0 := pickS_nonneg (c := rb2) (n := n) (by omega)
            have h1 := pickS_lt (c := rb2) (n := n) (by omega)
            have s0 : 1 ≤ 1 + pickS rc2 9 := by omega
            have s1 : 1 + pickS rc2 9 ≤ 9 := by omega
            clear CP0 CP1 CP2 HWR
            generalize wz.setRow bn #[.int .i64 (pickS ra n), .int .i64 (pickS rb2 n), .int .i64 (1 + pickS rc2 9)] = wq at *
            have HIq := Lib.hid HIw
            clear HIw
            generalize 1 + pickS rc2 9 = cc at *
            generalize pickS ra n = f at *
            generalize pickS rb2 n = g at *
            clear c0 c1 g0 g1 g2 HI HRq q2 q3
            refine A2 _ _ ?_
            have k0 : wq.cell? ⟨bn, 0, none⟩ = some (.int .i64 f) := by rw [cell_of_row _ _ 0 _ _ _ hcell]; rfl
            have k1 : wq.cell? ⟨bn, 1, none⟩ = some (.int .i64 g) := by rw [cell_of_row _ _ 1 _ _ _ hcell]; rfl
            have k2 : wq.cell? ⟨bn, 2, none⟩ = some (.int .i64 cc) := by rw [cell_of_row _ _ 2 _ _ _ hcell]; rfl
            have hbnl : bn < wq.heap.size := (Array.getElem?_eq_some_iff.1 hcell).1
            clear hcell
            have HED := Lib.hid (HIq.out.edges hes)
            obtain ⟨b0, hb0⟩ : ∃ b : Bool, (f != g) = b := ⟨_, rfl⟩
            have HB0 : Hid (b0 = true ↔ f ≠ g) := by
              show _ ↔ _
              rw [← hb0]
              simp
            go_wp2_with fail
            go_loopw [8, 9] (fun mo i wr => ∃ (k : Nat) (b : Bool), mo = .bool b ∧ k ≤ es.length ∧ i = .int .i64 k ∧ Hid (Below wq.heap.size wq wr) ∧ Hid (b = true ↔ f ≠ g ∧ ∀ j, j < k → ¬ Same (ate es j) (f, g, cc))) (fun _ i _ => es.length - (intOf i).toNat)
            case atStart => exact ⟨0, b0, rfl, Nat.zero_le _, rfl, Below.refl _ _, ⟨fun h => ⟨HB0.out.1 h, fun j hj => absurd hj (by omega)⟩, fun h => HB0.out.2 h.1⟩⟩
            case round =>
              obtain ⟨k, b, rfl, hk, rfl, HBl, HIf⟩ := hrel
              have HIr := Lib.hid (HIq.out.grow HBl.out)
              have c0 := HIr.out.c0
              have c1 := HIr.out.c1
              have k0' := (HBl.out.cell (p := ⟨bn, 0, none⟩) hbnl).trans k0
              have k1' := (HBl.out.cell (p := ⟨bn, 1, none⟩) hbnl).trans k1
              have k2' := (HBl.out.cell (p := ⟨bn, 2, none⟩) hbnl).trans k2
              clear k0 k1 k2
              by_cases hltk : k < es.length
              · obtain ⟨eo', ec', hveq, _, hcs⟩ := HED.out
                simp only [Value.slice.injEq] at hveq
                obtain ⟨rfl, -, -⟩ := hveq
                obtain ⟨eb, eof, rfl, elb, hcs⟩ := hcs (by omega)
                have x0 := (HBl.out.cell (p := ⟨eb, eof + k * 3, none⟩) elb).trans (hcs k hltk).1
                have x1 := (HBl.out.cell (p := ⟨eb, eof + k * 3 + 1, none⟩) elb).trans (hcs k hltk).2.1
                clear hcs
                have HSm : Hid (Same (ate es k) (f, g, cc) ↔ (ate es k).1 = f ∧ (ate es k).2.1 = g) := Iff.rfl
                have hstep : ∀ b' : Bool, (b' = true ↔ b = true ∧ ¬ Same (ate es k) (f, g, cc)) → (b' = true ↔ f ≠ g ∧ ∀ j, j < k + 1 → ¬ Same (ate es j) (f, g, cc)) := fun b' h => by
                  rw [h, HIf.out]
                  constructor
                  · rintro ⟨⟨y, z⟩, u⟩
                    refine ⟨y, fun j hj => ?_⟩
                    by_cases e : j = k
                    · subst e; exact u
                    · exact z j (by omega)
                  · rintro ⟨y, z⟩
                    exact ⟨⟨y, fun j hj => z j (by omega)⟩, z k (by omega)⟩
                have HST := Lib.hid hstep
                clear hstep
                generalize (ate es k).1 = ef at *
                generalize (ate es k).2.1 = eg at *
                cases b with
                | false =>
                  have HN2 := Lib.hid (HST.out false (by simp))
                  go_wp2_with fail
                  go_quiet (fail)
                  go_wp2_with fail
                  go_roundw
                  case rel => exact ⟨k + 1, false, rfl, by omega, by go_num, below_drewN HBl.out _, HN2⟩
                  case measure => simp [intOf]; omega
                | true =>
                  by_cases e1 : ef = f
                  · by_cases e2 : eg = g
                    · have HN2 := Lib.hid (HST.out false (by simp [HSm.out, e1, e2]))
                      subst e1 e2
                      go_wp2_with fail
                      go_quiet (fail)
                      go_wp2_with fail
                      go_roundw
                      case rel => exact ⟨k + 1, false, rfl, by omega, by go_num, below_drewN HBl.out _, HN2⟩
                      case measure => simp [intOf]; omega
                    · have HN2 := Lib.hid (HST.out true (by simp [HSm.out, e1, e2]))
                      have d2 : (eg == g) = false := by simpa using e2
                      have d3 : (eg != g) = true := by simpa using e2
                      subst e1
                      clear e2
                      go_wp2_with fail
                      go_quiet (fail)
                      go_wp2_with fail
                      go_roundw
                      case rel => exact ⟨k + 1, true, rfl, by omega, by go_num, below_drewN HBl.out _, ⟨fun _ => HN2.out.1 trivial, fun _ => rfl⟩⟩
                      case measure => simp [intOf]; omega
                  · have HN2 := Lib.hid (HST.out true (by simp [HSm.out, e1]))
                    have d2 : (ef == f) = false := by simpa using e1
                    have d3 : (ef != f) = true := by simpa using e1
                    clear e1
                    go_wp2_with fail
                    go_quiet (fail)
                    go_wp2_with fail
                    go_roundw
                    case rel => exact ⟨k + 1, true, rfl, by omega, by go_num, below_drewN HBl.out _, ⟨fun _ => HN2.out.1 trivial, fun _ => rfl⟩⟩
                    case measure => simp [intOf]; omega
              · obtain rfl : k = es.length := by omega
                cases b with
                | false =>
                  go_wp2_with fail
                  go_roundw
                  case rel => exact ⟨q + 1, es, _, by omega, by go_num, hes, HIr, HR, HCH⟩
                  case measure => simp [intOf]; omega
                | true =>
                  have HRn : Hid (RightTo n (es ++ [(f, g, cc)]) (es ++ [(f, g, cc)]).length) := by
                    show RightTo _ _ _
                    obtain ⟨y, z⟩ := HIf.out.1 rfl
                    rw [List.length_append]
                    refine RightTo.succ (fun i hi => ?_) ?_ ?_
                    · rw [ate_append_left hi]
                      refine ⟨(HR.out i hi).1, fun j hj => ?_⟩
                      rw [ate_append_left (by omega)]
                      exact (HR.out i hi).2 j hj
                    · rw [ate_append_here]
                      exact ⟨⟨f0, f1⟩, ⟨h0, h1⟩, y, s0, by show cc ≤ 1000; omega⟩
                    · intro j hj
                      rw [ate_append_here, ate_append_left hj]
                      exact z j hj
                  have HCn : Hid (Cheap (es ++ [(f, g, cc)])) := fun i hi => by
                    by_cases e : i = es.length
                    · subst e
                      rw [ate_append_here]
                      show cc ≤ 9
                      omega
                    · rw [List.length_append] at hi
                      have hi' : i < es.length := by simp at hi; omega
                      rw [ate_append_left hi']
                      exact HCH.out i hi'
                  obtain ⟨i0, hi0, hz0, hz1, hz2⟩ := info_parts edge_info
                  have hbs := HIr.out.below.size
                  have hlt2 := HIr.out.lt
                  go_wp2_with (at_builtin; (refine wpList_append_lies _ rfl _ _ 30 rfl (w.heap.size + 1 + 1) 54 i0 _ 3 24 Try.underlying30 hi0 hz0 hz1 hz2 rfl (by omega) _ es.length (flatE es) rfl (HIr.out.row.alloc _) ⟨wr.heap.size, 0, none⟩ 1 1 [.int .i64 f, .int .i64 g, .int .i64 cc] rfl rfl (World.news_of_block (cs := #[.int .i64 f, .int .i64 g, .int .i64 cc]) (t := 54) (fr := (0, 0)) (heap_alloc_new wr _)) (by simp [Value.oneCell']) (by omega) (by unfold maxLen; omega) (by omega) (by simp; omega) (wr.heap.size + 1) (by simp) ?_); intro g' cp w4 hown hgrow hat hlt4; have HB4 := Lib.hid (row_below HIr.out.row hgrow (Below.refl _ wr) (by omega)); have hbx := (HB4.out.block (w.heap.size + 1) (by omega)).trans HIr.out.box; have y1 := cell_of_row w4 (w.heap.size + 1) 1 _ _ _ hbx; have yf := frozen_of_row w4 (w.heap.size + 1) 1 _ _ hbx; have HO4 := Lib.hid hown; clear hown hgrow hat hbx)
                  have HIn := Lib.hid (HIr.out.step (e := (f, g, cc)) HB4.out (by rw [flatE_append]; exact HO4.out))
                  go_roundw
                  case rel => exact ⟨q + 1, es ++ [(f, g, cc)], _, by omega, by go_num, by simp; omega, HIn, HRn, HCn⟩
                  case measure => simp [intOf]; omega
--END
      · have d24 : decide ((es.length : Int) < 24) = false := by simp; omega
        subst hv
        have HED := Lib.hid (HI.out.edges hes)
        have HRt : Hid (RightL n es) := ⟨n1, by omega, by omega, HR.out⟩
        have HBX := Lib.hid HI.out.box
        have HRS := Lib.hid HI.out.res
        have HBn := Lib.hid (Below.setRow HI.out.below (Nat.le_refl _) #[.int .i64 n, .slice eo es.length ec])
        have HRn := Lib.hid (setRow_heap wr w.heap.size _ #[.int .i64 n, .slice eo es.length ec] 32 (0, 0) HI.out.res)
        have HEn : Hid (EdgesAt (wr.setRow w.heap.size #[.int .i64 n, .slice eo es.length ec]) (.slice eo es.length ec) es) := edges_own (own_setRow HI.out.row (by omega) _) rfl (by omega)
        go_wp2_with (first
          | (refine wpList_load_row rfl 32 _ rfl (w.heap.size + 1) rfl 32 #[.int .i64 n, .slice eo es.length ec] (0, 0) _ HBX.out Try.underlying32 rfl (by kernel_rfl) ?_)
          | (refine wpList_store_row rfl 32 _ _ rfl w.heap.size #[.int .i64 n, .slice eo es.length ec] rfl rfl 32 _ HRS.out (by kernel_rfl) rfl (by simp [Value.oneCell']) ?_))
        refine bodyPost_ret (v := .agg #[.int .i64 n, .slice eo es.length ec]) (results_cell_row (p := 4) (ty := 32) rfl _ _ w.heap.size 32 #[.int .i64 n, .slice eo es.length ec] (0, 0) _ rfl HRn.out Try.underlying32 rfl (by kernel_rfl)) rfl ?_
        rw [← HQ.out]
        exact ⟨_, es, rfl, HRt.out, hes, HEn.out, HBn.out, HCH.out⟩
    · subst hv
      have HED := Lib.hid (HI.out.edges hes)
      have HRt : Hid (RightL n es) := ⟨n1, by omega, by omega, HR.out⟩
      have HBX := Lib.hid HI.out.box
      have HRS := Lib.hid HI.out.res
      have HBn := Lib.hid (Below.setRow HI.out.below (Nat.le_refl _) #[.int .i64 n, .slice eo es.length ec])
      have HRn := Lib.hid (setRow_heap wr w.heap.size _ #[.int .i64 n, .slice eo es.length ec] 32 (0, 0) HI.out.res)
      have HEn : Hid (EdgesAt (wr.setRow w.heap.size #[.int .i64 n, .slice eo es.length ec]) (.slice eo es.length ec) es) := edges_own (own_setRow HI.out.row (by omega) _) rfl (by omega)
      have dq : decide ((q : Int) < (L.length : Int)) = false := by simp; omega
      go_wp2_with (first
        | (refine wpList_load_row rfl 32 _ rfl (w.heap.size + 1) rfl 32 #[.int .i64 n, .slice eo es.length ec] (0, 0) _ HBX.out Try.underlying32 rfl (by kernel_rfl) ?_)
        | (refine wpList_store_row rfl 32 _ _ rfl w.heap.size #[.int .i64 n, .slice eo es.length ec] rfl rfl 32 _ HRS.out (by kernel_rfl) rfl (by simp [Value.oneCell']) ?_))
      refine bodyPost_ret (v := .agg #[.int .i64 n, .slice eo es.length ec]) (results_cell_row (p := 4) (ty := 32) rfl _ _ w.heap.size 32 #[.int .i64 n, .slice eo es.length ec] (0, 0) _ rfl HRn.out Try.underlying32 rfl (by kernel_rfl)) rfl ?_
      rw [← HQ.out]
      exact ⟨_, es, rfl, HRt.out, hes, HEn.out, HBn.out, HCH.out⟩
end Go.Proofs.Ytnpbkjmlmdpggaa.Ly
