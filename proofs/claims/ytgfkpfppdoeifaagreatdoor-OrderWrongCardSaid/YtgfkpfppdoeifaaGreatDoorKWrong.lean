/- The law OrderWrong (an order with something wrong in it is not right and is not laid) answers true for all inputs; taken that Go's own tables (those of strconv, math/bits and unicode/utf8) hold what the program's text lays, which the card ties. -/
import Derived.Test.YtgfkpfppdoeifaaGreatDoorMOg
import Derived.Test.YtgfkpfppdoeifaaGreatDoorMOb
import Derived.StillTailTactics
import Derived.Test.YtgfkpfppdoeifaaGreatDoorMF
import Derived.Test.YtgfkpfppdoeifaaGreatDoorMG
/- OrderWrong: an order with something wrong in it is not right. -/
set_option linter.unusedVariables false
set_option linter.unusedSimpArgs false
namespace Go.Proofs.YtgfkpfppdoeifaaGreatDoor.Od
open Go.RowKit Js Lex

theorem own_less {w : World} {b b' e s n : Nat} {v : Value} {xs : List Value} (h : w.ownsRow b e s v n xs) (hb : b' ≤ b) : w.ownsRow b' e s v n xs := by
  refine ⟨h.1, ?_⟩
  rcases h.2 with hn | ⟨g, cap, cur, hv, hbg, hr⟩
  · exact .inl hn
  · exact .inr ⟨g, cap, cur, hv, Nat.le_trans hb hbg, hr⟩
/-- An order whose lists were copied. -/
theorem ft_made {wA w5 w6 : World} {bo : Nat} {c0 c1 c2 c3 n0 e0 : Value} {ln le : List St} {nv ev : Value} (hblk : wA.heap[bo]? = some (.cells #[c0, c1, c2, c3, n0, e0] 25 (0, 0))) (ho5 : w5.ownsRow wA.heap.size 57 3 nv ln.length (cellsS ln)) (hg5 : wA.grownBy w5 none)
    (ho6 : w6.ownsRow (w5.setCell ⟨bo, 4, none⟩ nv).heap.size 59 3 ev le.length (cellsS le)) (hg6 : (w5.setCell ⟨bo, 4, none⟩ nv).grownBy w6 none) : FT wA bo c0 c1 c2 c3 ln le nv ev (w6.setCell ⟨bo, 5, none⟩ ev) := by
  have hl := Own.block_lt hblk
  have h5 := (hg5.block bo hl (by simp)).trans hblk
  have h5' := heap_setCell_same w5 bo 4 _ 25 nv h5
  have hl5 := Own.block_lt h5'
  have h6 := (hg6.block bo hl5 (by simp)).trans h5'
  have h6' := heap_setCell_same w6 bo 5 _ 25 ev h6
  have hs5 : wA.heap.size ≤ (w5.setCell ⟨bo, 4, none⟩ nv).heap.size := by rw [size_set]; exact hg5.size
  refine ⟨((((Moves.refl _ _ _).grown hg5 (Nat.le_refl _) (fun k hk => by cases hk)).setCell (p := ⟨bo, 4, none⟩) (.inr rfl) _).grown hg6 hs5 (fun k hk => by cases hk)).setCell (p := ⟨bo, 5, none⟩) (.inr rfl) _, hl, ?_, ?_, ?_⟩
  · rw [h6']; rfl
  · have r1 := row_keep ho5 (w' := w5.setCell ⟨bo, 4, none⟩ nv) (fun g e hl => heap_setCell_other _ _ _ _ (by have := (World.ownsRow.lt ho5 g e).1; show g ≠ bo; omega))
    have r2 := row_keep r1 (w' := w6) (fun g e hl => hg6.block g hl (by simp))
    exact row_keep r2 (fun g e hl => heap_setCell_other _ _ _ _ (by have := (World.ownsRow.lt ho5 g e).1; show g ≠ bo; omega))
  · exact row_keep (own_less ho6 hs5) (fun g e hl => heap_setCell_other _ _ _ _ (by have := (World.ownsRow.lt ho6 g e).1; show g ≠ bo; omega))
theorem sts_of {S : Nat → Prop} {w : World} {z : O} {h o u : Int} {s : ByteArray} {a b : Option Addr} {n c m f : Nat} (hx : OAt S w (.agg #[.int .i64 h, .string s, .int .i64 o, .int .i64 u, .slice a n c, .slice b m f]) z) : StsAt S w (.slice a n c) z.ns ∧ StsAt S w (.slice b m f) z.es := by
  obtain ⟨nv, ev, e, _, _, _, _, h1, h2⟩ := hx
  simp only [oV, Value.agg.injEq, Array.mk.injEq, List.cons.injEq, and_true] at e
  obtain ⟨_, _, _, _, rfl, rfl⟩ := e
  exact ⟨h1, h2⟩
theorem pick8_still {c n : Int} {v : Nat} (hv : Quo.pickS c n = (v : Int)) (w : World) (hc0 : -9223372036854775808 ≤ c) (hc1 : c ≤ 9223372036854775807) (hn0 : 0 < n) (hn1 : n ≤ 9223372036854775807) :
    Calls Tryz.prog 20 #[.int .i64 c, .int .i64 n] w (fun e w'' => e = .returned (.int .i64 (v : Int)) ∧ w'' = w) :=
  (pick8_any c n w hc0 hc1 hn0 hn1).mono fun e w'' ⟨h1, h2⟩ => ⟨by rw [← hv]; exact h1, h2.symm⟩
/-- What is told of an order that is bent. -/
theorem lay_bent (h : Int) (v : List UInt8) (o u : Int) (ns es : List St) (hz : rightO Tp.nameB ⟨h, v, o, u, ns, es⟩ = false) {n m : Nat} (hn : ns.length = n) (hm : es.length = m) {b : Nat} {a : Option Addr} {c : Nat} {e : Option Addr} {f : Nat} {w : World} (hT : Dec.Tab w) (hb : BX8 ⟨h, v, o, u, ns, es⟩ b a c e f w) :
    Calls Tryz.prog 12 #[.agg #[.int .i64 h, .string ⟨v.toArray⟩, .int .i64 o, .int .i64 u, .slice a n c, .slice e m f]] w (Ret (.tuple #[.string ⟨#[]⟩, .int .i64 1]) w) := by
  subst hn hm
  exact lay_no hz hT hb
theorem right_bent (h : Int) (v : List UInt8) (o u : Int) (ns es : List St) (hz : rightO Tp.nameB ⟨h, v, o, u, ns, es⟩ = false) {n m : Nat} (hn : ns.length = n) (hm : es.length = m) {b : Nat} {a : Option Addr} {c : Nat} {e : Option Addr} {f : Nat} {w : World} (hb : BX8 ⟨h, v, o, u, ns, es⟩ b a c e f w) :
    Calls Tryz.prog 14 #[.agg #[.int .i64 h, .string ⟨v.toArray⟩, .int .i64 o, .int .i64 u, .slice a n c, .slice e m f]] w (Ret (.bool false) w) := by
  subst hn hm
  have := right_any Any _ _ w hb.oat
  rwa [hz] at this
theorem box_bent {h : Int} {v : List UInt8} {o u : Int} {ns es : List St} {n m : Nat} (hn : ns.length = n) (hm : es.length = m) {b : Nat} {a : Option Addr} {c : Nat} {e : Option Addr} {f : Nat} {w : World} (hb : BX8 ⟨h, v, o, u, ns, es⟩ b a c e f w) :
    w.heap[b]? = some (.cells #[.int .i64 h, .string ⟨v.toArray⟩, .int .i64 o, .int .i64 u, .slice a n c, .slice e m f] 25 (0, 0)) := by
  subst hn hm
  exact hb.blk
theorem own_cells {w : World} {base T n g c : Nat} {l : List St} (h : w.ownsRow base T 3 (.slice (some ⟨g, 0, none⟩) n c) n (cellsS l)) (hl : l.length = n) {k : Nat} (hk : k < n) :
    (w.cell? ⟨g, k * 3, none⟩ = some (.int .i64 (l.getD k st0).id) ∧ w.cell? ⟨g, k * 3 + 1, none⟩ = some (.int .i64 (l.getD k st0).seq) ∧ w.cell? ⟨g, k * 3 + 2, none⟩ = some (.bool (l.getD k st0).rel)) ∧ ∀ i, w.frozen? ⟨g, i, none⟩ = false := by
  have k0 := h.cellAt (k * 3 + 0) (by omega)
  have k1 := h.cellAt (k * 3 + 1) (by omega)
  have k2 := h.cellAt (k * 3 + 2) (by omega)
  rw [cellsS_get l k 0 (by omega) (by omega)] at k0
  rw [cellsS_get l k 1 (by omega) (by omega)] at k1
  rw [cellsS_get l k 2 (by omega) (by omega)] at k2
  refine ⟨⟨k0, k1, k2⟩, fun i => ?_⟩
  rcases h.2 with ⟨e, _⟩ | ⟨g', cap, cur, hv, _, hg, _⟩
  · cases e
  · cases hv
    exact free_of hg i
theorem name_bad8 : Tp.nameB [97, 32, 98] = false := by decide
theorem minus_B : numB (-1) = false := by decide
theorem great_B : numB 1000000001 = false := by decide

set_option maxHeartbeats 16000000 in
set_option maxRecDepth 100000 in
theorem wrong_walk (v0 : Value) (x : O) (base which at_ : Int) (w : World) (hT : Dec.Tab w) (h : OAt Any w v0 x) (b0 : -9223372036854775808 ≤ base) (b1 : base ≤ 9223372036854775807) (b2 : -9223372036854775808 ≤ which) (b3 : which ≤ 9223372036854775807) (b4 : -9223372036854775808 ≤ at_) (b5 : at_ ≤ 9223372036854775807) :
    Calls Tryz.prog 8 #[v0, .int .i64 base, .int .i64 which, .int .i64 at_] w (Ret (.bool true) w) := by
  obtain ⟨a0, c0, e0, f0, rfl, -⟩ := h.open_
  have X0 := Lib.hid (BX8.new h)
  have A1 := Lib.hid (fun (w' : World) (hb : Below w.heap.size w w') => awake8_any w' (hT.below hb))
  have hr := fit_rightO Tp.fit_name x base
  obtain ⟨y, hy⟩ : ∃ y, fitO Tp.fitL x base = y := ⟨_, rfl⟩
  have F1 := Lib.hid (fun (w' : World) (b : Nat) (a : Option Addr) (c : Nat) (e : Option Addr) (f : Nat) (hx : BX8 x b a c e f w') => fit8 hy hx b0 b1)
  rw [hy] at hr
  obtain ⟨r1, r2, r3, r4, r5, r6, r7, r8, r9⟩ := rightO_parts hr
  obtain ⟨good1, good2, i1, i3, i4⟩ := right_good hr
  have hvl : y.v.length ≤ 140737488355328 := by have := (Tp.name_len r1).2; omega
  have HR := Lib.hid hr
  have HG := Lib.hid (And.intro good1 (And.intro good2 (And.intro i1 (And.intro i3 (And.intro i4 hvl)))))
  have hn1 : 1 ≤ y.ns.length := r5
  have hn2 : y.ns.length ≤ 64 := r6
  have HMN : Hid (y.es.length + 1 = y.ns.length) := r7
  have hm2 : y.es.length ≤ 64 := by omega
  obtain ⟨kn, hkn, hkl⟩ : ∃ k : Nat, Quo.pickS at_ (y.ns.length : Int) = (k : Int) ∧ k < y.ns.length := by
    have h1 := Quo.pickS_nonneg (c := at_) (n := (y.ns.length : Int)) (by omega)
    have h2 := Quo.pickS_lt (c := at_) (n := (y.ns.length : Int)) (by omega)
    exact ⟨(Quo.pickS at_ (y.ns.length : Int)).toNat, by omega, by omega⟩
  have P1 := Lib.hid (fun (w' : World) => pick8_any at_ (y.ns.length : Int) w' b4 b5 (by omega) (by omega))
  rw [hkn] at P1
  have P2 := Lib.hid (fun (w' : World) => pick8_any which 7 w' b2 b3 (by decide) (by decide))
  obtain ⟨kw, hkw⟩ : ∃ k, Quo.pickS which 7 = k := ⟨_, rfl⟩
  have hw1 := Quo.pickS_nonneg (c := which) (n := 7) (by decide)
  have hw2 := Quo.pickS_lt (c := which) (n := 7) (by decide)
  rw [hkw] at P2 hw1 hw2
  have HKW : Hid (kw = 0 ∨ kw = 1 ∨ kw = 2 ∨ kw = 3 ∨ kw = 4 ∨ kw = 5 ∨ kw = 6) := by show _ ∨ _; omega
  have LNO := Lib.hid (fun (z : O) (hz : rightO Tp.nameB z = false) (w' : World) (b : Nat) (a : Option Addr) (c : Nat) (e : Option Addr) (f : Nat) (hb : Below w.heap.size w w') (hx : BX8 z b a c e f w') => lay_no hz (hT.below hb) hx)
  clear hy hr h hkn hkw hw1 hw2 r1 r2 r3 r4 r5 r6 r7 r8 r9 good1 good2 i1 i3 i4 hvl
  have B0 := Lib.hid (belowOne w (.cells #[.int .i64 x.h, .string ⟨x.v.toArray⟩, .int .i64 x.o, .int .i64 x.u, .slice a0 x.ns.length c0, .slice e0 x.es.length f0] 25))
  go_enter Tryz.func8, Tryz.ntmps8
  go_upto_region 9 with (first
    | (go_at_call 10; (with_reducible refine (A1.out _ B0.out).mono ?_); rintro e1 w1 ⟨rfl, hb1⟩; have B1 := Lib.hid (B0.out.trans (hb1.mono B0.out.size)); have X1 := Lib.hid (X0.out.below hb1); obtain ⟨x0, x1, x2, x3, x4, x5⟩ := six_of X1.out.blk)
    | (go_at_call 11; (with_reducible refine (F1.out _ _ _ _ _ _ X1.out).mono ?_); rintro e2 w2 ⟨a2, c2, d2, f2, rfl, hv2, hb2⟩; have B2 := Lib.hid ((B1.out.trans (hb2.mono B1.out.size)).alloc (Nat.le_trans B1.out.size hb2.size) (.cells #[.int .i64 y.h, .string ⟨y.v.toArray⟩, .int .i64 y.o, .int .i64 y.u, .slice a2 y.ns.length c2, .slice d2 y.es.length f2] 25)); have Y2 := Lib.hid (BX8.new hv2); have HV2 := Lib.hid (hv2.keep (S' := fun b => b < w2.heap.size) (fun b _ hb => hb) (fun _ _ _ => rfl) (Nat.le_refl _)); have hbo : w2.heap.size < (w2.alloc (.cells #[.int .i64 y.h, .string ⟨y.v.toArray⟩, .int .i64 y.o, .int .i64 y.u, .slice a2 y.ns.length c2, .slice d2 y.es.length f2] 25)).heap.size := Y2.out.lt; have HSN := Lib.hid (sts_of (HV2.out.below (belowOne w2 (.cells #[.int .i64 y.h, .string ⟨y.v.toArray⟩, .int .i64 y.o, .int .i64 y.u, .slice a2 y.ns.length c2, .slice d2 y.es.length f2] 25)) (Nat.le_refl _))).1; have HSE := Lib.hid (sts_of (HV2.out.below (belowOne w2 (.cells #[.int .i64 y.h, .string ⟨y.v.toArray⟩, .int .i64 y.o, .int .i64 y.u, .slice a2 y.ns.length c2, .slice d2 y.es.length f2] 25)) (Nat.le_refl _))).2)
    | (go_at_call 20; (with_reducible refine (P1.out _).mono ?_); rintro e3 w3 ⟨rfl, rfl⟩)
    | (go_at_call 20; (with_reducible refine (P2.out _).mono ?_); rintro e3 w3 ⟨rfl, rfl⟩)
    | (refine wpList_copy_sts rfl _ _ stop_info rfl Tryz.underlying22 rfl rfl a2 c2 y.ns rfl _ hn2 HSN.out ?_; intro a5 c5 w5 hown5 hgrow5; have HO5 := Lib.hid hown5; have HG5 := Lib.hid hgrow5; have hk5 := (hgrow5.block _ hbo (by simp)).trans Y2.out.blk; obtain ⟨⟨y0, y1, y2, y3, y4, y5⟩, g0, g1, g2, g3, g4, g5⟩ := twelve_of hk5; have HSE5 := Lib.hid ((HSE.out.keep (S' := fun b => b < w2.heap.size) (w' := w5) (fun _ h _ => h) (fun b hb hl => hgrow5.block b hl (by simp)) hgrow5.size).keep (S' := fun b => b < w2.heap.size) (w' := w5.setCell ⟨w2.heap.size, 4, none⟩ (.slice a5 y.ns.length c5)) (fun _ h _ => h) (fun b hb _ => heap_setCell_other _ _ _ _ (by have hb' : b < w2.heap.size := hb; show b ≠ w2.heap.size; omega)) (by rw [size_set]; exact Nat.le_refl _)); have hl5 := Own.block_lt hk5)
    | (refine wpList_copy_sts rfl _ _ way_info rfl Tryz.underlying23 rfl rfl d2 f2 y.es rfl _ hm2 HSE5.out ?_; intro a6 c6 w6 hown6 hgrow6; have HFT := Lib.hid (ft_made Y2.out.blk HO5.out HG5.out hown6 hgrow6); have hk6 := (hgrow6.block w2.heap.size (by rw [size_set]; exact hl5) (by simp)).trans (heap_setCell_same w5 w2.heap.size 4 _ 25 (.slice a5 y.ns.length c5) ((HG5.out.block _ hbo (by simp)).trans Y2.out.blk)); have hk6' := free_of hk6 5; have hk6'' := (cell_of_row w6 w2.heap.size 5 _ _ _ hk6)))
  have hFT := HFT.out
  have hbo2 : w.heap.size ≤ w2.heap.size := Nat.le_trans B1.out.size hb2.size
  have BWA := Lib.hid B2.out
  clear y0 y1 y2 y3 y4 y5 g0 g1 g2 g3 g4 g5 hk6' hk6'' hk6 hk5 hown5 hgrow5 hown6 hgrow6 HO5 HG5 HSE5 HFT
  generalize w6.setCell ⟨w2.heap.size, 5, none⟩ (.slice a6 y.es.length c6) = wB at *
  generalize hwA : w2.alloc (.cells #[.int .i64 y.h, .string ⟨y.v.toArray⟩, .int .i64 y.o, .int .i64 y.u, .slice a2 y.ns.length c2, .slice d2 y.es.length f2] 25) = wA at *
  clear hwA HSN HSE Y2 HV2 X1 X0
  generalize w2.heap.size = bo at *
  obtain ⟨g5, q5, e5⟩ := own_some hFT.nrow hn1
  simp only [Value.slice.injEq] at e5
  obtain ⟨rfl, -, rfl⟩ := e5
  obtain ⟨⟨y0, y1, y2, y3, y4, y5⟩, gz0, gz1, gz2, gz3, gz4, gz5⟩ := twelve_of hFT.blk
  obtain ⟨⟨n0, n1, n2⟩, nf⟩ := own_cells hFT.nrow rfl hkl
  obtain ⟨⟨m0, m1, m2⟩, -⟩ := own_cells hFT.nrow rfl hn1
  rw [Nat.zero_mul] at m0 m1 m2
  have nf0 := nf (kn * 3)
  have nf1 := nf (kn * 3 + 1)
  have nf2 := nf 2
  obtain ⟨gd1, gd2, i1, i3, i4, hvl⟩ := HG.out
  have HFT := Lib.hid hFT
  have hkn1 : (kn : Int) < (y.ns.length : Int) := by omega
  have hsA := BWA.out.size
  have hDR : Below wB.heap.size wB wB.drew := (Below.refl _ _).drew
  have hbs := Own.block_lt hFT.blk
  have hBB : Below w.heap.size w wB := BWA.out.trans ((hFT.mv.mono hsA).below hbo2)
  have BWB := Lib.hid hBB
  clear hFT nf B2 B1 F1 A1 P1 P2 hBB
  have hgk : goodS (y.ns.getD kn st0) := gd1 _ (by rw [List.getD_eq_getElem?_getD, List.getElem?_eq_getElem hkl]; exact List.getElem_mem _)
  have hg0 : goodS (y.ns.getD 0 st0) := gd1 _ (by rw [List.getD_eq_getElem?_getD, List.getElem?_eq_getElem hn1]; exact List.getElem_mem _)
  have hd97 : ([97, 32, 98] : List UInt8).length ≤ 140737488355328 := by decide
  have im1 : i64B (-1) := ⟨by decide, by decide⟩
  have ig1 : i64B 1000000001 := ⟨by decide, by decide⟩
  have hsk := numB_iff ((rightO_parts HR.out).2.2.2.2.2.2.2.1 (y.ns.getD kn st0) (by rw [List.getD_eq_getElem?_getD, List.getElem?_eq_getElem hkl]; exact List.getElem_mem _)).2
  obtain ⟨X, HX⟩ : ∃ X, Hid (y.ns.getD kn st0 = X) := ⟨_, rfl⟩
  rw [HX.out] at n0 n1 n2 hgk hsk
  rcases HKW.out with rfl | rfl | rfl | rfl | rfl | rfl | rfl
  · go_upto_region 10 with fail
    go_still_tail 12, (by kernel_rfl)
    change wpList _ _ _ _ _ wB.drew
    have HFD := Lib.hid (HFT.out.below hDR)
    have BWD := Lib.hid (BWB.out.trans (hDR.mono BWB.out.size))
    have z4 := (hDR.cell (p := ⟨bo, 4, none⟩) hbs).trans y4
    obtain ⟨⟨k0, k1, k2⟩, kf⟩ := own_cells HFD.out.nrow rfl hkl
    have kf1 := kf (kn * 3 + 1)
    rw [HX.out] at k0 k1 k2
    have HWS := Lib.hid (wrong_seq HR.out hkl)
    rw [show (y.ns.getD kn st0).seq = X.seq by rw [HX.out]] at HWS
    generalize wB.drew = wD at *
    have hwr : IntKind.i64.wrap (X.seq + 1) = X.seq + 1 := by rw [IntKind.wrap_i64]; omega
    have hwr2 : wrap64 (X.seq + 1) = X.seq + 1 := IntWalk.wrap64_in _ ⟨by omega, by omega⟩
    go_upto_region 23 with fail
    have hgb := (World.ownsRow.lt HFT.out.nrow g5 rfl).1
    have HF := Lib.hid (HFD.out.nset (i := kn * 3 + 1) (u := .int .i64 (X.seq + 1)) (ln' := y.ns.set kn { y.ns.getD kn st0 with seq := X.seq + 1 }) (List.length_set) (cellsS_seq y.ns kn _ hkl))
    have HZ : Hid (rightO Tp.nameB ⟨y.h, y.v, y.o, y.u, y.ns.set kn { y.ns.getD kn st0 with seq := X.seq + 1 }, y.es⟩ = false) := HWS.out
    have BW := Lib.hid (show Below w.heap.size w (wD.setCell ⟨g5, kn * 3 + 1, none⟩ (.int .i64 (X.seq + 1))) from (below_set1 BWD.out (by omega) _))
    have BXZ : Hid (BX8 ⟨y.h, y.v, y.o, y.u, y.ns.set kn { y.ns.getD kn st0 with seq := X.seq + 1 }, y.es⟩ bo _ _ _ _ (wD.setCell ⟨g5, kn * 3 + 1, none⟩ (.int .i64 (X.seq + 1)))) := FT.bx HF.out (List.length_set) rfl i1 hvl i3 i4 (good_set gd1 ⟨by rw [HX.out]; exact hgk.1, by simp only; exact ⟨by omega, by omega⟩⟩) gd2 (by simp <;> omega) (by simp <;> omega)
    generalize wD.setCell ⟨g5, kn * 3 + 1, none⟩ (.int .i64 (X.seq + 1)) = wC at *
    have LN := Lib.hid (lay_bent _ _ _ _ _ _ HZ.out (List.length_set) rfl (hT.below BW.out) BXZ.out)
    clear y0 y1 y2 y3 y4 y5 gz0 gz1 gz2 gz3 gz4 gz5 n0 n1 n2 m0 m1 m2 nf0 nf1 nf2 HF
    obtain ⟨y0, y1, y2, y3, y4, y5⟩ := six_of (box_bent (List.length_set) rfl BXZ.out)
    have hsC := BW.out.size
    go_wp2_with (first
      | (go_at_call 12; (with_reducible refine (LN.out).mono ?_); rintro e7 w7 ⟨rfl, hb7⟩; have BX7 := Lib.hid (BXZ.out.below hb7); obtain ⟨u0, u1, u2, u3, u4, u5⟩ := six_of (box_bent (List.length_set) rfl BX7.out))
      | (go_at_call 14; (with_reducible refine (right_bent _ _ _ _ _ _ HZ.out (List.length_set) rfl BX7.out).mono ?_); rintro e8 w8 ⟨rfl, hb8⟩))
    go_ret
    exact ⟨rfl, BW.out.trans ((hb7.mono hsC).trans (hb8.mono (Nat.le_trans hsC hb7.size)))⟩
  · go_upto_region 23 with fail
    have hgb := (World.ownsRow.lt HFT.out.nrow g5 rfl).1
    have HF := Lib.hid (HFT.out.nset (i := 2) (u := .bool false) (ln' := y.ns.set 0 { y.ns.getD 0 st0 with rel := false }) (List.length_set) (cellsS_rel y.ns 0 false hn1))
    have HZ : Hid (rightO Tp.nameB ⟨y.h, y.v, y.o, y.u, y.ns.set 0 { y.ns.getD 0 st0 with rel := false }, y.es⟩ = false) := wrong_first HR.out
    have BW := Lib.hid (show Below w.heap.size w (wB.setCell ⟨g5, 2, none⟩ (.bool false)) from (below_set1 BWB.out (by omega) _))
    have BXZ : Hid (BX8 ⟨y.h, y.v, y.o, y.u, y.ns.set 0 { y.ns.getD 0 st0 with rel := false }, y.es⟩ bo _ _ _ _ (wB.setCell ⟨g5, 2, none⟩ (.bool false))) := FT.bx HF.out (List.length_set) rfl i1 hvl i3 i4 (good_set gd1 ⟨hg0.1, hg0.2⟩) gd2 (by simp <;> omega) (by simp <;> omega)
    generalize wB.setCell ⟨g5, 2, none⟩ (.bool false) = wC at *
    have LN := Lib.hid (lay_bent _ _ _ _ _ _ HZ.out (List.length_set) rfl (hT.below BW.out) BXZ.out)
    clear y0 y1 y2 y3 y4 y5 gz0 gz1 gz2 gz3 gz4 gz5 n0 n1 n2 m0 m1 m2 nf0 nf1 nf2 HF
    obtain ⟨y0, y1, y2, y3, y4, y5⟩ := six_of (box_bent (List.length_set) rfl BXZ.out)
    have hsC := BW.out.size
    go_wp2_with (first
      | (go_at_call 12; (with_reducible refine (LN.out).mono ?_); rintro e7 w7 ⟨rfl, hb7⟩; have BX7 := Lib.hid (BXZ.out.below hb7); obtain ⟨u0, u1, u2, u3, u4, u5⟩ := six_of (box_bent (List.length_set) rfl BX7.out))
      | (go_at_call 14; (with_reducible refine (right_bent _ _ _ _ _ _ HZ.out (List.length_set) rfl BX7.out).mono ?_); rintro e8 w8 ⟨rfl, hb8⟩))
    go_ret
    exact ⟨rfl, BW.out.trans ((hb7.mono hsC).trans (hb8.mono (Nat.le_trans hsC hb7.size)))⟩
  · go_upto_region 23 with fail
    have hgb := (World.ownsRow.lt HFT.out.nrow g5 rfl).1
    have HF := Lib.hid (HFT.out.put1 (.string ⟨#[97, 32, 98]⟩))
    have HZ : Hid (rightO Tp.nameB ⟨y.h, [97, 32, 98], y.o, y.u, y.ns, y.es⟩ = false) := wrong_name name_bad8
    have BW := Lib.hid (show Below w.heap.size w (wB.setCell ⟨bo, 1, none⟩ (.string ⟨#[97, 32, 98]⟩)) from (below_set1 BWB.out (by omega) _))
    have BXZ : Hid (BX8 ⟨y.h, [97, 32, 98], y.o, y.u, y.ns, y.es⟩ bo _ _ _ _ (wB.setCell ⟨bo, 1, none⟩ (.string ⟨#[97, 32, 98]⟩))) := FT.bx HF.out rfl rfl i1 hd97 i3 i4 gd1 gd2 (by simp <;> omega) (by simp <;> omega)
    generalize wB.setCell ⟨bo, 1, none⟩ (.string ⟨#[97, 32, 98]⟩) = wC at *
    have LN := Lib.hid (lay_bent _ _ _ _ _ _ HZ.out rfl rfl (hT.below BW.out) BXZ.out)
    clear y0 y1 y2 y3 y4 y5 gz0 gz1 gz2 gz3 gz4 gz5 n0 n1 n2 m0 m1 m2 nf0 nf1 nf2 HF
    obtain ⟨y0, y1, y2, y3, y4, y5⟩ := six_of (box_bent rfl rfl BXZ.out)
    have hsC := BW.out.size
    go_wp2_with (first
      | (go_at_call 12; (with_reducible refine (LN.out).mono ?_); rintro e7 w7 ⟨rfl, hb7⟩; have BX7 := Lib.hid (BXZ.out.below hb7); obtain ⟨u0, u1, u2, u3, u4, u5⟩ := six_of (box_bent rfl rfl BX7.out))
      | (go_at_call 14; (with_reducible refine (right_bent _ _ _ _ _ _ HZ.out rfl rfl BX7.out).mono ?_); rintro e8 w8 ⟨rfl, hb8⟩))
    go_ret
    exact ⟨rfl, BW.out.trans ((hb7.mono hsC).trans (hb8.mono (Nat.le_trans hsC hb7.size)))⟩
  · go_upto_region 23 with fail
    have hgb := (World.ownsRow.lt HFT.out.nrow g5 rfl).1
    have HF := Lib.hid (HFT.out.nset (i := kn * 3) (u := .int .i64 (-1)) (ln' := y.ns.set kn { y.ns.getD kn st0 with id := -1 }) (List.length_set) (cellsS_id y.ns kn (-1) hkl))
    have HZ : Hid (rightO Tp.nameB ⟨y.h, y.v, y.o, y.u, y.ns.set kn { y.ns.getD kn st0 with id := -1 }, y.es⟩ = false) := wrong_node HR.out hkl minus_B
    have BW := Lib.hid (show Below w.heap.size w (wB.setCell ⟨g5, kn * 3, none⟩ (.int .i64 (-1))) from (below_set1 BWB.out (by omega) _))
    have BXZ : Hid (BX8 ⟨y.h, y.v, y.o, y.u, y.ns.set kn { y.ns.getD kn st0 with id := -1 }, y.es⟩ bo _ _ _ _ (wB.setCell ⟨g5, kn * 3, none⟩ (.int .i64 (-1)))) := FT.bx HF.out (List.length_set) rfl i1 hvl i3 i4 (good_set gd1 ⟨im1, by rw [HX.out]; exact hgk.2⟩) gd2 (by simp <;> omega) (by simp <;> omega)
    generalize wB.setCell ⟨g5, kn * 3, none⟩ (.int .i64 (-1)) = wC at *
    have LN := Lib.hid (lay_bent _ _ _ _ _ _ HZ.out (List.length_set) rfl (hT.below BW.out) BXZ.out)
    clear y0 y1 y2 y3 y4 y5 gz0 gz1 gz2 gz3 gz4 gz5 n0 n1 n2 m0 m1 m2 nf0 nf1 nf2 HF
    obtain ⟨y0, y1, y2, y3, y4, y5⟩ := six_of (box_bent (List.length_set) rfl BXZ.out)
    have hsC := BW.out.size
    go_wp2_with (first
      | (go_at_call 12; (with_reducible refine (LN.out).mono ?_); rintro e7 w7 ⟨rfl, hb7⟩; have BX7 := Lib.hid (BXZ.out.below hb7); obtain ⟨u0, u1, u2, u3, u4, u5⟩ := six_of (box_bent (List.length_set) rfl BX7.out))
      | (go_at_call 14; (with_reducible refine (right_bent _ _ _ _ _ _ HZ.out (List.length_set) rfl BX7.out).mono ?_); rintro e8 w8 ⟨rfl, hb8⟩))
    go_ret
    exact ⟨rfl, BW.out.trans ((hb7.mono hsC).trans (hb8.mono (Nat.le_trans hsC hb7.size)))⟩
  · go_upto_region 23 with (refine append_st rfl _ _ way_info rfl Tryz.underlying23 rfl wA.heap.size _ y.es rfl (HFT.out.erow.alloc _) _ _ rfl st0 (heap_alloc_new _ _) (by omega) (by have := HFT.out.mv.size; simp <;> omega) ?_; intro a9 c9 w9 hown9 hgrow9; have HF9 := Lib.hid ((HFT.out.below (belowOne _ _)).edge hown9 hgrow9); have hk9 := (hgrow9.block bo (by simp <;> omega) (fun e => by have := (World.ownsRow.lt HFT.out.erow bo e.symm).1; have := HFT.out.lt; omega)).trans ((heap_alloc_old _ _ hbs).trans HFT.out.blk); obtain ⟨⟨j0, j1, j2, j3, j4, j5⟩, gj0, gj1, gj2, gj3, gj4, gj5⟩ := twelve_of hk9)
    have hgb := (World.ownsRow.lt HFT.out.nrow g5 rfl).1
    have HF := Lib.hid (HF9.out)
    have HZ : Hid (rightO Tp.nameB ⟨y.h, y.v, y.o, y.u, y.ns, y.es ++ [st0]⟩ = false) := wrong_edge_more HR.out st0
    have BW := Lib.hid (show Below w.heap.size w (w9.setCell ⟨bo, 5, none⟩ (.slice a9 (y.es.length + 1) c9)) from (BWA.out.trans ((HF9.out.mv.mono hsA).below hbo2)))
    have BXZ : Hid (BX8 ⟨y.h, y.v, y.o, y.u, y.ns, y.es ++ [st0]⟩ bo _ _ _ _ (w9.setCell ⟨bo, 5, none⟩ (.slice a9 (y.es.length + 1) c9))) := FT.bx HF.out rfl (show (y.es ++ [st0]).length = y.es.length + 1 by simp) i1 hvl i3 i4 gd1 (fun e he => by rcases List.mem_append.1 he with he | he; exact gd2 e he; rw [List.mem_singleton] at he; subst he; exact ⟨⟨by decide, by decide⟩, ⟨by decide, by decide⟩⟩) (by simp <;> omega) (by simp <;> omega)
    generalize w9.setCell ⟨bo, 5, none⟩ (.slice a9 (y.es.length + 1) c9) = wC at *
    have LN := Lib.hid (lay_bent _ _ _ _ _ _ HZ.out rfl (show (y.es ++ [st0]).length = y.es.length + 1 by simp) (hT.below BW.out) BXZ.out)
    clear y0 y1 y2 y3 y4 y5 gz0 gz1 gz2 gz3 gz4 gz5 n0 n1 n2 m0 m1 m2 nf0 nf1 nf2 HF
    obtain ⟨y0, y1, y2, y3, y4, y5⟩ := six_of (box_bent rfl (show (y.es ++ [st0]).length = y.es.length + 1 by simp) BXZ.out)
    have hsC := BW.out.size
    go_wp2_with (first
      | (go_at_call 12; (with_reducible refine (LN.out).mono ?_); rintro e7 w7 ⟨rfl, hb7⟩; have BX7 := Lib.hid (BXZ.out.below hb7); obtain ⟨u0, u1, u2, u3, u4, u5⟩ := six_of (box_bent rfl (show (y.es ++ [st0]).length = y.es.length + 1 by simp) BX7.out))
      | (go_at_call 14; (with_reducible refine (right_bent _ _ _ _ _ _ HZ.out rfl (show (y.es ++ [st0]).length = y.es.length + 1 by simp) BX7.out).mono ?_); rintro e8 w8 ⟨rfl, hb8⟩))
    go_ret
    exact ⟨rfl, BW.out.trans ((hb7.mono hsC).trans (hb8.mono (Nat.le_trans hsC hb7.size)))⟩
  · by_cases hone : y.ns.length = 1
    · have h1n : ((y.ns.length : Int) == 1) = true := by simp; omega
      have h1m : (y.ns.length : Int) = 1 := by omega
      clear hone
      go_wp2_with fail
      go_ret
      exact ⟨rfl, BWB.out⟩
    · have hmp : 0 < y.es.length := by have := HMN.out; omega
      have hnp : (2 : Int) ≤ (y.ns.length : Int) := by omega
      have h1n : ((y.ns.length : Int) == 1) = false := by simp; omega
      obtain ⟨km, hkm, hkml⟩ : ∃ k : Nat, Quo.pickS at_ ((y.ns.length : Int) - 1) = (k : Int) ∧ k < y.es.length := by
        have h1 := Quo.pickS_nonneg (c := at_) (n := (y.ns.length : Int) - 1) (by omega)
        have h2 := Quo.pickS_lt (c := at_) (n := (y.ns.length : Int) - 1) (by omega)
        have := HMN.out
        exact ⟨(Quo.pickS at_ ((y.ns.length : Int) - 1)).toNat, by omega, by omega⟩
      have PC := Lib.hid (fun (w' : World) => pick8_still hkm w' b4 b5 (by omega) (by omega))
      obtain ⟨g6, q6, e6⟩ := own_some HFT.out.erow hmp
      simp only [Value.slice.injEq] at e6
      obtain ⟨rfl, -, rfl⟩ := e6
      have hkm1 : (km : Int) < (y.es.length : Int) := by omega
      have HFD := Lib.hid (HFT.out.below hDR)
      have BWD := Lib.hid (BWB.out.trans (hDR.mono BWB.out.size))
      obtain ⟨⟨k0, k1, k2⟩, kf⟩ := own_cells HFT.out.erow rfl hkml
      obtain ⟨⟨l0, l1, l2⟩, lf⟩ := own_cells HFD.out.erow rfl hkml
      have lf2 := lf (km * 3 + 2)
      have HWE := Lib.hid (wrong_edge HR.out hkml)
      have hge : goodS (y.es.getD km st0) := gd2 _ (by rw [List.getD_eq_getElem?_getD, List.getElem?_eq_getElem hkml]; exact List.getElem_mem _)
      obtain ⟨E, HEE⟩ : ∃ X, Hid (y.es.getD km st0 = X) := ⟨_, rfl⟩
      rw [HEE.out] at k0 k1 k2 l0 l1 l2 hge
      rw [show (y.es.getD km st0).rel = E.rel by rw [HEE.out]] at HWE
      have hwn : IntKind.i64.wrap ((y.ns.length : Int) - 1) = (y.ns.length : Int) - 1 := by rw [IntKind.wrap_i64]; omega
      clear hone hkm kf lf
      go_upto_region 22 with fail
      refine wp_region_still_tail 18 mixed8 (by kernel_rfl) ?_
      simp only [List.take_succ_cons, List.take_zero, List.drop_succ_cons, List.drop_zero]
      repeat still_step
      still_call (PC.out _)
      repeat still_step
      still_call (PC.out _)
      repeat still_step
      refine wpStill_nil ?_
      change wpList _ _ _ _ _ wB.drew
      generalize wB.drew = wD at *
      go_upto_region 23 with fail
      have hgb := (World.ownsRow.lt HFT.out.nrow g5 rfl).1
      have HF := Lib.hid (HFD.out.eset (i := km * 3 + 2) (u := .bool (!E.rel)) (le' := y.es.set km { y.es.getD km st0 with rel := !E.rel }) (List.length_set) (cellsS_rel y.es km _ hkml))
      have HZ : Hid (rightO Tp.nameB ⟨y.h, y.v, y.o, y.u, y.ns, y.es.set km { y.es.getD km st0 with rel := !E.rel }⟩ = false) := HWE.out
      have BW := Lib.hid (show Below w.heap.size w (wD.setCell ⟨g6, km * 3 + 2, none⟩ (.bool (!E.rel))) from (below_set1 BWD.out (by have := (World.ownsRow.lt HFD.out.erow g6 rfl).1; omega) _))
      have BXZ : Hid (BX8 ⟨y.h, y.v, y.o, y.u, y.ns, y.es.set km { y.es.getD km st0 with rel := !E.rel }⟩ bo _ _ _ _ (wD.setCell ⟨g6, km * 3 + 2, none⟩ (.bool (!E.rel)))) := FT.bx HF.out rfl (List.length_set) i1 hvl i3 i4 gd1 (good_set gd2 ⟨by rw [HEE.out]; exact hge.1, by rw [HEE.out]; exact hge.2⟩) (by simp <;> omega) (by simp <;> omega)
      generalize wD.setCell ⟨g6, km * 3 + 2, none⟩ (.bool (!E.rel)) = wC at *
      have LN := Lib.hid (lay_bent _ _ _ _ _ _ HZ.out rfl (List.length_set) (hT.below BW.out) BXZ.out)
      clear y0 y1 y2 y3 y4 y5 gz0 gz1 gz2 gz3 gz4 gz5 n0 n1 n2 m0 m1 m2 nf0 nf1 nf2 HF
      obtain ⟨y0, y1, y2, y3, y4, y5⟩ := six_of (box_bent rfl (List.length_set) BXZ.out)
      have hsC := BW.out.size
      go_wp2_with (first
        | (go_at_call 12; (with_reducible refine (LN.out).mono ?_); rintro e7 w7 ⟨rfl, hb7⟩; have BX7 := Lib.hid (BXZ.out.below hb7); obtain ⟨u0, u1, u2, u3, u4, u5⟩ := six_of (box_bent rfl (List.length_set) BX7.out))
        | (go_at_call 14; (with_reducible refine (right_bent _ _ _ _ _ _ HZ.out rfl (List.length_set) BX7.out).mono ?_); rintro e8 w8 ⟨rfl, hb8⟩))
      go_ret
      exact ⟨rfl, BW.out.trans ((hb7.mono hsC).trans (hb8.mono (Nat.le_trans hsC hb7.size)))⟩
  · go_upto_region 23 with fail
    have hgb := (World.ownsRow.lt HFT.out.nrow g5 rfl).1
    have HF := Lib.hid (HFT.out.put3 (.int .i64 1000000001))
    have HZ : Hid (rightO Tp.nameB ⟨y.h, y.v, y.o, 1000000001, y.ns, y.es⟩ = false) := wrong_update great_B
    have BW := Lib.hid (show Below w.heap.size w (wB.setCell ⟨bo, 3, none⟩ (.int .i64 1000000001)) from (below_set1 BWB.out (by omega) _))
    have BXZ : Hid (BX8 ⟨y.h, y.v, y.o, 1000000001, y.ns, y.es⟩ bo _ _ _ _ (wB.setCell ⟨bo, 3, none⟩ (.int .i64 1000000001))) := FT.bx HF.out rfl rfl i1 hvl i3 ig1 gd1 gd2 (by simp <;> omega) (by simp <;> omega)
    generalize wB.setCell ⟨bo, 3, none⟩ (.int .i64 1000000001) = wC at *
    have LN := Lib.hid (lay_bent _ _ _ _ _ _ HZ.out rfl rfl (hT.below BW.out) BXZ.out)
    clear y0 y1 y2 y3 y4 y5 gz0 gz1 gz2 gz3 gz4 gz5 n0 n1 n2 m0 m1 m2 nf0 nf1 nf2 HF
    obtain ⟨y0, y1, y2, y3, y4, y5⟩ := six_of (box_bent rfl rfl BXZ.out)
    have hsC := BW.out.size
    go_wp2_with (first
      | (go_at_call 12; (with_reducible refine (LN.out).mono ?_); rintro e7 w7 ⟨rfl, hb7⟩; have BX7 := Lib.hid (BXZ.out.below hb7); obtain ⟨u0, u1, u2, u3, u4, u5⟩ := six_of (box_bent rfl rfl BX7.out))
      | (go_at_call 14; (with_reducible refine (right_bent _ _ _ _ _ _ HZ.out rfl rfl BX7.out).mono ?_); rintro e8 w8 ⟨rfl, hb8⟩))
    go_ret
    exact ⟨rfl, BW.out.trans ((hb7.mono hsC).trans (hb8.mono (Nat.le_trans hsC hb7.size)))⟩
end Go.Proofs.YtgfkpfppdoeifaaGreatDoor.Od

/- The law OrderWrong (an order with something wrong in it is not right and is not laid) answers true for all raw orders and numbers; taken that Go's own tables (those of strconv, math/bits and unicode/utf8) hold what the program's text lays, which the card ties. -/
set_option linter.unusedSimpArgs false
set_option linter.unusedVariables false
namespace Go.Proofs.YtgfkpfppdoeifaaGreatDoor.orderWrong
open Go.ChangeShapes Go.WideShapes Go.ChangeAt Go.RowKit Go.Proofs.YtgfkpfppdoeifaaGreatDoor.Od
open Go.Proofs.YtgfkpfppdoeifaaGreatDoor.Js (laid5 laid_met laidWorld tab_of_laid)

set_option maxRecDepth 100000 in
theorem contract (H : Type) (enc : TypeId × Value → H) (W : World) (base : Nat) (args : Array Value) (ds gs : List (DataW H)) (before : List MemPlace)
    (hval : ∀ (j : Nat) t v, Tryz.f8.params[j]? = some t → args[j]? = some v → Value.okWide Tryz.prog W .any base t v)
    (hW : DataW.Whole enc Tryz.prog Tryz.f8.params.toList Rows.orderWrongSpec.vars false W args.toList ds gs before) (hz : (DataW.weightsEach Tryz.prog (Tryz.f8.params.toList ++ (OpenSpec.ofChange Rows.orderWrongSpec).bare.plain.varTypes Tryz.prog) (ds ++ gs)).all (· ≤ reachBytes) = true) (hL : laidMetH Tryz.prog laid5 W) :
    Calls Tryz.prog 8 args W fun e W' => ∃ v, e = .returned v ∧ Rows.orderWrongSpec.post enc Tryz.prog Tryz.f8 false true false false W args v W' := by
  have hT := tab_of_laid hL
  clear hL
  have hW' := hW
  have hlt := hW.lt
  obtain ⟨p, q, hA0, hV, rfl, hfz, hnd⟩ := hW
  have hA : DataW.TrodAll enc Tryz.prog W 0 (fun _ => true) true Tryz.f8.params.toList args.toList ds p := hA0
  rw [Tryz.params8] at hA hval
  obtain ⟨v0, vs0, d0, ds0, p0, q0, hargs, rfl, rfl, h0, r0⟩ := trodAll_cons hA
  obtain ⟨v1, vs1, d1, ds1, p1, q1, rfl, rfl, rfl, h1, r1⟩ := trodAll_cons r0
  obtain ⟨v2, vs2, d2, ds2, p2, q2, rfl, rfl, rfl, h2, r2⟩ := trodAll_cons r1
  obtain ⟨v3, vs3, d3, ds3, p3, q3, rfl, rfl, rfl, h3, r3⟩ := trodAll_cons r2
  obtain ⟨rfl, rfl, rfl⟩ := trodAll_nil r3
  obtain rfl : args = #[v0, v1, v2, v3] := Array.ext' hargs
  obtain ⟨rfl, rfl⟩ := trodVars_none hV
  have k0 := h0
  have k1 := h1
  have k2 := h2
  have k3 := h3
  have wt0 : Wt 25 d0 := wt_of hz (j := 0) (by rw [Tryz.params8]; rfl) rfl
  obtain ⟨z0, hz0⟩ := open_order (hval 0 25 v0 rfl rfl) h0 wt0
  obtain ⟨x1, rfl, rfl, rfl, wx1⟩ := open_int Tryz.underlying3 (hval 1 3 v1 rfl rfl) h1
  obtain ⟨b1, c1⟩ := bounds_i64 wx1
  obtain ⟨x2, rfl, rfl, rfl, wx2⟩ := open_int Tryz.underlying3 (hval 2 3 v2 rfl rfl) h2
  obtain ⟨b2, c2⟩ := bounds_i64 wx2
  obtain ⟨x3, rfl, rfl, rfl, wx3⟩ := open_int Tryz.underlying3 (hval 3 3 v3 rfl rfl) h3
  obtain ⟨b3, c3⟩ := bounds_i64 wx3
  clear hA0
  simp only [List.append_nil] at hW'
  refine (wrong_walk v0 z0 x1 x2 x3 W hT hz0 b1 c1 b2 c2 b3 c3).mono fun e W' ⟨he, hg⟩ => ?_
  subst he
  exact ⟨_, rfl, _, _, _, [], _, [], hW', trodAll_cons_mk (shut_bool Tryz.underlying4 _) trodAll_mk0,
    (trodAll_cons_mk (Below.trod laidOut (by kernel_rfl) (of_decide_eq_true (by kernel_rfl)) k0 hg (fun x hx => by first | (exact absurd hx (by simp)) | exact hlt x (by simp [hx]))) (trodAll_cons_mk (Below.trod laidOut (by kernel_rfl) (of_decide_eq_true (by kernel_rfl)) k1 hg (fun x hx => by first | (exact absurd hx (by simp)) | exact hlt x (by simp [hx]))) (trodAll_cons_mk (Below.trod laidOut (by kernel_rfl) (of_decide_eq_true (by kernel_rfl)) k2 hg (fun x hx => by first | (exact absurd hx (by simp)) | exact hlt x (by simp [hx]))) (trodAll_cons_mk (Below.trod laidOut (by kernel_rfl) (of_decide_eq_true (by kernel_rfl)) k3 hg (fun x hx => by first | (exact absurd hx (by simp)) | exact hlt x (by simp [hx]))) trodAll_mk0)))), rfl,
    hg.frame _, fun h => by cases h⟩

theorem reads (os : Os) {H : Type} (enc : TypeId × Value → H) : ∃ places, DataW.whole enc Tryz.prog ((laidWorld os).forCall (fun _ _ => 0) ⟨#[], #[.agg #[.int .i64 0, .string ⟨#[]⟩, .int .i64 0, .int .i64 0, .slice none 0 0, .slice none 0 0], .int .i64 0, .int .i64 0, .int .i64 0], []⟩).memory Tryz.f8.params.toList Rows.orderWrongSpec.vars false (#[Value.agg #[.int .i64 0, .string ⟨#[]⟩, .int .i64 0, .int .i64 0, .slice none 0 0, .slice none 0 0], Value.int .i64 0, Value.int .i64 0, Value.int .i64 0] : Array Value).toList 8 = some ([.agg [.lit (.int .i64 0), .lit (.string []), .lit (.int .i64 0), .lit (.int .i64 0), .nil, .nil], .lit (.int .i64 0), .lit (.int .i64 0), .lit (.int .i64 0)], [], places) :=
  ⟨[], by kernel_rfl⟩

set_option maxRecDepth 100000 in
theorem lifted (os : Os) (started : os.Started) (H : Type) (enc : TypeId × Value → H) (F : Stop.Interp) :
    ReturnsInHanded {} Tryz.checked os 8 .any ((OpenSpec.ofChange Rows.orderWrongSpec).preRow enc Tryz.prog Tryz.f8 Rows.orderWrongRow.domain false Rows.orderWrongRow.laid) (((OpenSpec.ofChange Rows.orderWrongSpec).at F).post enc Tryz.prog Tryz.f8 false true false false) := by
  obtain ⟨places, hx⟩ := reads os enc
  refine returnsInHanded_of_row (C := Tryz.checked) (s := OpenSpec.ofChange Rows.orderWrongSpec) own started (by kernel_rfl) Tryz.func8
    (witness_row_at (enc := enc) (C := Tryz.checked) false (laidWorld os) #[.agg #[.int .i64 0, .string ⟨#[]⟩, .int .i64 0, .int .i64 0, .slice none 0 0, .slice none 0 0], .int .i64 0, .int .i64 0, .int .i64 0] rfl (by kernel_rfl) (by kernel_rfl) (by kernel_rfl)
      (OpenSpec.preRow_of_cond 8 hx (by kernel_rfl) (fun k hk => by cases hk) (by kernel_rfl) (laid_met os _))) ?_
  intro W base args ds gs before hval hW _ _ hz hL _ _
  exact contract H enc W base args ds gs before hval hW hz hL

theorem said : Rows.OrderWrongSaid :=
  OpenClaim.holds_of_cond 8 Tryz.f8 rfl rfl rfl rfl rfl rfl rfl ⟨rfl, rfl, rfl, rfl, rfl⟩ rfl rfl rfl rfl rfl (by kernel_rfl) Tryz.func8 (by kernel_rfl)
    (of_decide_eq_true (by kernel_rfl)) (by unfold Func.isWrapper; first | (rw [if_pos (by decide +kernel)]; kernel_rfl) | (rw [if_neg (by decide +kernel)]; exact ⟨rfl, rfl⟩))
    (fun os started H enc _ F => by rw [OpenClaim.pre_eq_preRow]; exact lifted os started H enc F)

theorem plain (f : FuncId) (fn : Func) (hf : Tryz.pinned.checked.prog.funcNamed Rows.orderWrongRow.func = some f) (hfn : Tryz.pinned.checked.prog.funcs[f]? = some fn) :
    false = Tryz.pinned.checked.prog.looks [] ∧ ∀ (j : Nat) t, fn.params[j]? = some t → Tryz.pinned.checked.prog.wantsStandIn t = false := by
  obtain rfl : f = 8 := Option.some.inj ((show Tryz.prog.funcNamed Rows.orderWrongRow.func = some 8 by kernel_rfl).symm.trans hf) |>.symm
  obtain rfl : fn = Tryz.f8 := (Option.some.inj (Tryz.func8.symm.trans hfn)).symm
  refine ⟨by kernel_rfl, fun j t ht => ?_⟩
  rw [Tryz.params8] at ht
  have hm := Array.mem_of_getElem? ht
  have hh : t = 25 ∨ t = 3 := by simp at hm; first | (rcases hm with h | h <;> simp [h]) | (rcases hm with h | h | h | h <;> simp [h])
  rcases hh with rfl | rfl
  · exact (show Tryz.prog.wantsStandIn 25 = false by kernel_rfl)
  · exact (show Tryz.prog.wantsStandIn 3 = false by kernel_rfl)

theorem card : Rows.OrderWrongCardSaid :=
  Claim7.holds_tied_plain_at .later [] _ _ _ _ said (fun _ h => by cases h) (by kernel_rfl) (fun _ h => by cases h) orderWrong_row_tie rfl ⟨rfl, rfl⟩ (by kernel_rfl) rfl plain (by kernel_rfl)
end Go.Proofs.YtgfkpfppdoeifaaGreatDoor.orderWrong
