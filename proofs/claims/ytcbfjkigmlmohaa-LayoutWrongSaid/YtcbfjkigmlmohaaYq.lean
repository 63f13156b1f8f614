import Derived.Test.YtcbfjkigmlmohaaAn
import Derived.Deep.RegionLaw
/- The law LayoutWrong. -/
set_option linter.unusedVariables false
set_option linter.unusedSimpArgs false
namespace Go.Proofs.Ytcbfjkigmlmohaa.Ly
open Go.RowKit

theorem wrong_last {n : Int} {ms : List Ed} {e : Ed} (h : ¬ EdgeOk n e ∨ ∃ x ∈ ms, Same x e) : ¬ RightL n (ms ++ [e]) := by
  refine RightTo.not (k := ms.length) (by simp) ?_
  rw [ate_append_here]
  rcases h with h | ⟨x, hx, h⟩
  · exact .inl h
  · obtain ⟨j, hj, rfl⟩ := mem_ate hx
    refine .inr ⟨j, hj, ?_⟩
    rw [ate_append_left hj]
    exact h
theorem wrong_first {n : Int} {ms : List Ed} {e : Ed} (hm : 0 < ms.length) (h : ¬ EdgeOk n (ate ms 0)) : ¬ RightL n (ms ++ [e]) := by
  refine RightTo.not (k := 0) (by simp) (.inl ?_)
  rw [ate_append_left hm]
  exact h
theorem right_40 : rightB 40 [] = true := rightB_true ⟨by omega, by omega, by simp, RightTo.zero 40 []⟩
theorem right_41 : rightB 41 [] = false := rightB_false fun h => by have := h.2.1; omega
theorem right_00 : rightB 0 [] = false := rightB_false fun h => by have := h.1; omega
/-- Where the cost of the first edge is another one. -/
def firstC (es : List Ed) (c : Int) : List Ed := match es with
  | [] => []
  | e :: r => (e.1, e.2.1, c) :: r
theorem firstC_len (es : List Ed) (c : Int) : (firstC es c).length = es.length := by cases es <;> rfl
theorem firstC_bad {n : Int} {es : List Ed} {c : Int} (h0 : 0 < es.length) (hc : c < 1 ∨ 1000 < c) : ¬ EdgeOk n (ate (firstC es c) 0) := by
  cases es with
  | nil => simp at h0
  | cons e r =>
    rintro ⟨_, _, _, h1, h2⟩
    have h1' : 1 ≤ c := h1
    have h2' : c ≤ 1000 := h2
    omega
theorem firstC_flat {es : List Ed} {c : Int} (h0 : 0 < es.length) : flatE (firstC es c) = (flatE es).set 2 (.int .i64 c) := by
  cases es with
  | nil => simp at h0
  | cons e r => rfl
theorem own_form {w : World} {base n s : Nat} {e : TypeId} {v : Value} {xs : List Value} (h : w.ownsRow base e s v n xs) (h0 : 0 < n) : ∃ g cap, v = .slice (some ⟨g, 0, none⟩) n cap ∧ base ≤ g ∧ g < w.heap.size := by
  rcases h.2 with ⟨rfl, hn⟩ | ⟨g, cap, cur, rfl, hb, hg, _⟩
  · omega
  · exact ⟨g, cap, rfl, hb, (Array.getElem?_eq_some_iff.1 hg).1⟩
/-- The law's two boxes: a layout's, and an edge's. -/
structure WI (n : Int) (v : Value) (ms : List Ed) (e : Ed) (w wr : World) (b1 b2 : Nat) : Prop where
  below : Below w.heap.size w wr
  box : wr.heap[b1]? = some (.cells #[.int .i64 n, v] 24 (0, 0))
  ebx : wr.heap[b2]? = some (.cells #[.int .i64 e.1, .int .i64 e.2.1, .int .i64 e.2.2] 40 (0, 0))
  ed : EdgesAt wr v ms
  ge1 : w.heap.size ≤ b1
theorem WI.start {n : Int} {v : Value} {es : List Ed} {w w2 : World} (e : Ed) (hB : Below w.heap.size w w2) (hed : EdgesAt w2 v es) :
    WI n v es e w ((w2.alloc (.cells #[.int .i64 n, v] 24)).alloc (.cells #[.int .i64 e.1, .int .i64 e.2.1, .int .i64 e.2.2] 40)) w2.heap.size (w2.heap.size + 1) := by
  have h2 : Below w2.heap.size w2 ((w2.alloc (.cells #[.int .i64 n, v] 24)).alloc (.cells #[.int .i64 e.1, .int .i64 e.2.1, .int .i64 e.2.2] 40)) := ((Below.refl _ w2).alloc (Nat.le_refl _) _).alloc (by simp) _
  exact ⟨hB.trans (h2.mono hB.size), heap_alloc2_old w2 _ _, heap_alloc2_new w2 _ _, hed.below h2 (Nat.le_refl _), hB.size⟩
/-- A copy of the edges whose first one costs another thing. -/
theorem WI.copied {n c : Int} {v : Value} {es : List Ed} {e : Ed} {w wD wA : World} {b1 b2 g cp : Nat} (h : WI n v es e w wD b1 b2) (h12 : b1 < b2) (h2 : b2 < wD.heap.size) (h0 : 0 < es.length) (hl : es.length ≤ 24) (hg : wD.grownBy wA none)
    (ho : wA.ownsRow wD.heap.size 40 3 (.slice (some ⟨g, 0, none⟩) es.length cp) es.length (flatE es)) (hgb : wD.heap.size ≤ g) :
    WI n (.slice (some ⟨g, 0, none⟩) es.length cp) (firstC es c) e w ((wA.setCell ⟨b1, 1, none⟩ (.slice (some ⟨g, 0, none⟩) es.length cp)).setCell ⟨g, 2, none⟩ (.int .i64 c)) b1 b2 := by
  have hB : Below wD.heap.size wD wA := (Below.refl _ wD).grown hg (Nat.le_refl _) (fun k e => by cases e)
  have hs := h.below.size
  have hge := h.ge1
  have hx := (hB.block b1 (by omega)).trans h.box
  have he := (hB.block b2 h2).trans h.ebx
  have hrow := (ownsRow_setCell_below ho (a := ⟨b1, 1, none⟩) (by show b1 < _; omega) (.slice (some ⟨g, 0, none⟩) es.length cp)).stored 2 (.int .i64 c)
  rw [← firstC_flat h0] at hrow
  refine ⟨((h.below.trans (hB.mono hs)).setCell (by show w.heap.size ≤ b1; exact hge) _).setCell (by show w.heap.size ≤ g; omega) _, ?_, ?_, ?_, hge⟩
  · rw [heap_setCell_other _ _ _ _ (by show b1 ≠ g; omega), heap_setCell_same _ _ 1 _ _ _ hx]
    rfl
  · rw [heap_setCell_other _ _ _ _ (by show b2 ≠ g; omega), heap_setCell_other _ _ _ _ (by show b2 ≠ b1; omega)]
    exact he
  · have := edges_own hrow.1 (firstC_len es c) (by omega)
    exact this
/-- The edges with one more: a copy that is stored. -/
theorem WI.made {n : Int} {v : Value} {ms : List Ed} {e : Ed} {w wc wB : World} {b1 b2 g cp : Nat} (h : WI n v ms e w wc b1 b2) (hB : Below wc.heap.size wc wB) (h1 : b1 < wc.heap.size)
    (ho : wB.ownsRow wc.heap.size 40 3 (.slice (some ⟨g, 0, none⟩) (ms.length + 1) cp) (ms.length + 1) (flatE ms ++ [.int .i64 e.1, .int .i64 e.2.1, .int .i64 e.2.2])) (hl : ms.length ≤ 24) :
    KX w (wB.setCell ⟨b1, 1, none⟩ (.slice (some ⟨g, 0, none⟩) (ms.length + 1) cp)) b1 n (.slice (some ⟨g, 0, none⟩) (ms.length + 1) cp) (ms ++ [e]) := by
  have hs := h.below.size
  have hge := h.ge1
  have hx := (hB.block b1 h1).trans h.box
  have hy := heap_setCell_same wB b1 1 _ _ (.slice (some ⟨g, 0, none⟩) (ms.length + 1) cp) hx
  have hrow := ownsRow_setCell_below ho (a := ⟨b1, 1, none⟩) h1 (.slice (some ⟨g, 0, none⟩) (ms.length + 1) cp)
  refine ⟨(h.below.trans (hB.mono hs)).setCell hge _, ⟨cell_of_row _ _ 0 _ _ _ hy, cell_of_row _ _ 1 _ _ _ hy, (Array.getElem?_eq_some_iff.1 hy).1⟩, ?_⟩
  have hf : flatE (ms ++ [e]) = flatE ms ++ [.int .i64 e.1, .int .i64 e.2.1, .int .i64 e.2.2] := by rw [flatE_append]; rfl
  rw [← hf] at hrow
  exact edges_own hrow (by simp) (by omega)
set_option maxRecDepth 100000 in
set_option maxHeartbeats 16000000 in
theorem lwrong_walk {w : World} (a : Int) (ha : i64B a) (rv : Value) (L : List Ed) (hL : EdgesAt w rv L) (hB : RawB L) (f : Int) (hf : i64B f) :
    Calls Try.prog 8 #[.int .i64 a, rv, .int .i64 f] w (Ret (.bool true) w) := by
  have CF := Lib.hid (fun w' (h : EdgesAt w' rv L) => fit_ex a ha rv L h hB)
  have HL := Lib.hid hL
  have HFB := Lib.hid hf
  clear ha hL hB hf
  obtain ⟨Q, HQ⟩ : ∃ Q, Hid (Ret (.bool true) w = Q) := ⟨_, rfl⟩
  rw [HQ.out]
  have CP := Lib.hid (fun w' => pick_any f 6 w' HFB.out.1 HFB.out.2 (by omega) (by omega))
  have q0 := pickS_nonneg (c := f) (n := 6) (by omega)
  have q1 := pickS_lt (c := f) (n := 6) (by omega)
  generalize pickS f 6 = ch at *
  go_enter Try.func8, Try.ntmps8
  go_upto_block 0 with (first
    | (go_at_call 10; (with_reducible refine (awake_any _).mono ?_); rintro e w1 ⟨rfl, hb⟩; have HB1 := Lib.hid hb; have HL1 := Lib.hid (HL.out.below hb (Nat.le_refl _)); clear hb)
    | (go_at_call 11; (with_reducible refine (CF.out _ HL1.out).mono ?_); rintro e w2 ⟨n, v, es, rfl, n1, n8, hr, h24, hed, hb⟩; obtain ⟨eo, ec, rfl⟩ := hed.form; have HR := Lib.hid hr; have HB2 := Lib.hid (HB1.out.trans (hb.mono HB1.out.size)); have HE2 := Lib.hid hed; clear hr hed hb)
    | (go_at_call 12; (with_reducible refine (CP.out _).mono ?_); rintro e w3 ⟨rfl, rfl⟩))
  clear CF CP
  have HW0 := Lib.hid (fun e => WI.start (n := n) e HB2.out HE2.out)
  obtain ⟨i0, hi0, hz0, hz1, hz2⟩ := info_parts edge_info
  go_cut [62] from 19 to 62 (fun _ wx => ∃ (vm : Value) (ms : List Ed) (e : Ed), Hid (WI n vm ms e w wx w2.heap.size (w2.heap.size + 1)) ∧ ms.length ≤ 24 ∧ Hid (¬ RightL n (ms ++ [e])))
  case first =>
    have hcase : ch = 0 ∨ ch = 1 ∨ ch = 2 ∨ ch = 3 ∨ ch = 4 ∨ ch = 5 := by omega
    clear q0 q1
    have hsz : ((w2.alloc (.cells #[.int .i64 n, .slice eo es.length ec] 24)).alloc (.cells #[.int .i64 0, .int .i64 n, .int .i64 1] 40)).heap.size = w2.heap.size + 1 + 1 := by simp
    have HSZ := Lib.hid hsz
    clear hsz
    have HBadN : Hid (¬ RightL n (es ++ [((0 : Int), n, (1 : Int))])) := wrong_last (.inl (by rintro ⟨_, ⟨_, h⟩, _⟩; have h' : n < n := h; omega))
    rcases hcase with rfl | rfl | rfl | rfl | rfl | rfl
    · go_wp2_with fail
      go_meet
      exact ⟨_, es, (0, 0, 1), HW0.out (0, 0, 1), h24, wrong_last (.inl (by rintro ⟨_, _, h, _⟩; exact h rfl))⟩
    · go_wp2_with fail
      go_meet
      exact ⟨_, es, (-1, 0, 1), HW0.out (-1, 0, 1), h24, wrong_last (.inl (by rintro ⟨⟨h, _⟩, _⟩; have h' : (0 : Int) ≤ -1 := h; omega))⟩
    · by_cases hl : 0 < es.length
      · have hE := HE2.out
        obtain ⟨eo', ec', hveq, _, hcs⟩ := hE
        simp only [Value.slice.injEq] at hveq
        obtain ⟨rfl, -, -⟩ := hveq
        obtain ⟨eb, eof, rfl, elb, hcs⟩ := hcs hl
        obtain ⟨g0, g1, g2⟩ := hcs 0 hl
        simp only [Nat.zero_mul, Nat.add_zero] at g0 g1 g2
        have HME : Hid (ate es 0 ∈ es) := ate_mem hl
        have hdl : decide ((0 : Int) < (es.length : Int)) = true := decide_eq_true (by omega)
        clear hcs
        generalize hq : ate es 0 = e0 at *
        obtain ⟨ef, eg, eq⟩ := e0
        dsimp only at g0 g1 g2
        clear hq
        go_wp2_with fail
        go_meet
        exact ⟨_, es, (ef, eg, eq), HW0.out (ef, eg, eq), h24, wrong_last (.inr ⟨_, HME.out, rfl, rfl⟩)⟩
      · have hdl : decide ((0 : Int) < (es.length : Int)) = false := decide_eq_false (by omega)
        go_wp2_with fail
        go_meet
        exact ⟨_, es, (0, n, 1), HW0.out (0, n, 1), h24, HBadN.out⟩
    · by_cases hl : 0 < es.length
      · have hdl : decide ((0 : Int) < (es.length : Int)) = true := decide_eq_true (by omega)
        have hWD := HW0.out (0, n, 1)
        have HWD := Lib.hid hWD
        have HCE := Lib.hid (edges_cells hWD.ed)
        have x1 := cell_of_row _ w2.heap.size 1 _ _ _ hWD.box
        dsimp only at HWD HCE x1
        clear hWD
        generalize (w2.alloc (.cells #[.int .i64 n, .slice eo es.length ec] 24)).alloc (.cells #[.int .i64 0, .int .i64 n, .int .i64 1] 40) = wD at *
        have hwd : wD.heap.size = w2.heap.size + 1 + 1 := HSZ.out
        have hbd : w2.heap.size < wD.heap.size := by omega
        have HWZ := Lib.hid hwd
        clear hwd
        go_wp2_with (at_builtin; (refine wpList_nil_append rfl _ _ 22 rfl wD.heap.size 40 i0 _ 3 24 Try.underlying22 hi0 hz0 hz1 hz2 rfl (by omega) rfl eo es.length ec rfl (flatE es) (flatE_len es) HCE.out flatE_one (by unfold maxLen; omega) (by omega) (Nat.le_refl _) ?_); (intro vA wA hown hgrow; obtain ⟨gb, cp, rfl, hgb, hgl⟩ := own_form hown hl; have HO := Lib.hid hown; have HG := Lib.hid hgrow; have hbx := (hgrow.block w2.heap.size hbd (fun e => by cases e)).trans HWD.out.box; have y1 := cell_of_row wA w2.heap.size 1 _ _ _ hbx; have yf := frozen_of_row wA w2.heap.size 1 _ _ hbx; have y2 := (hown.cellAt 2 (by omega)).trans (flatE_get (l := es) (i := 0) hl).2.2; have yg := hown.frozenAt 2; have hn1 : w2.heap.size ≠ gb := (by omega); have hn2 : gb ≠ w2.heap.size := (by omega); clear hown hgrow hbx))
        go_meet
        exact ⟨_, firstC es (0), (0, n, 1), HWD.out.copied (by omega) (by have := HWZ.out; omega) hl h24 HG.out HO.out hgb, by rw [firstC_len]; exact h24, wrong_first (by rw [firstC_len]; exact hl) (firstC_bad hl (by omega))⟩
      · have hdl : decide ((0 : Int) < (es.length : Int)) = false := decide_eq_false (by omega)
        go_wp2_with fail
        go_meet
        exact ⟨_, es, (0, n, 1), HW0.out (0, n, 1), h24, HBadN.out⟩
    · by_cases hl : 0 < es.length
      · have hdl : decide ((0 : Int) < (es.length : Int)) = true := decide_eq_true (by omega)
        have hWD := HW0.out (0, n, 1)
        have HWD := Lib.hid hWD
        have HCE := Lib.hid (edges_cells hWD.ed)
        have x1 := cell_of_row _ w2.heap.size 1 _ _ _ hWD.box
        dsimp only at HWD HCE x1
        clear hWD
        generalize (w2.alloc (.cells #[.int .i64 n, .slice eo es.length ec] 24)).alloc (.cells #[.int .i64 0, .int .i64 n, .int .i64 1] 40) = wD at *
        have hwd : wD.heap.size = w2.heap.size + 1 + 1 := HSZ.out
        have hbd : w2.heap.size < wD.heap.size := by omega
        have HWZ := Lib.hid hwd
        clear hwd
        go_wp2_with (at_builtin; (refine wpList_nil_append rfl _ _ 22 rfl wD.heap.size 40 i0 _ 3 24 Try.underlying22 hi0 hz0 hz1 hz2 rfl (by omega) rfl eo es.length ec rfl (flatE es) (flatE_len es) HCE.out flatE_one (by unfold maxLen; omega) (by omega) (Nat.le_refl _) ?_); (intro vA wA hown hgrow; obtain ⟨gb, cp, rfl, hgb, hgl⟩ := own_form hown hl; have HO := Lib.hid hown; have HG := Lib.hid hgrow; have hbx := (hgrow.block w2.heap.size hbd (fun e => by cases e)).trans HWD.out.box; have y1 := cell_of_row wA w2.heap.size 1 _ _ _ hbx; have yf := frozen_of_row wA w2.heap.size 1 _ _ hbx; have y2 := (hown.cellAt 2 (by omega)).trans (flatE_get (l := es) (i := 0) hl).2.2; have yg := hown.frozenAt 2; have hn1 : w2.heap.size ≠ gb := (by omega); have hn2 : gb ≠ w2.heap.size := (by omega); clear hown hgrow hbx))
        go_meet
        exact ⟨_, firstC es (1001), (0, n, 1), HWD.out.copied (by omega) (by have := HWZ.out; omega) hl h24 HG.out HO.out hgb, by rw [firstC_len]; exact h24, wrong_first (by rw [firstC_len]; exact hl) (firstC_bad hl (by omega))⟩
      · have hdl : decide ((0 : Int) < (es.length : Int)) = false := decide_eq_false (by omega)
        go_wp2_with fail
        go_meet
        exact ⟨_, es, (0, n, 1), HW0.out (0, n, 1), h24, HBadN.out⟩
    · go_wp2_with fail
      go_meet
      exact ⟨_, es, (0, n, 1), HW0.out (0, n, 1), h24, HBadN.out⟩
  case rest =>
    rename_i K1 A1
    obtain ⟨vm, ms, e, HWI, hms, HNR⟩ := hcut
    obtain ⟨e1, e2, e3⟩ := e
    obtain ⟨mo, mc, rfl⟩ := HWI.out.ed.form
    clear HW0 HR HB2 HE2 HB1 HL1 HL h24 HFB
    generalize w2.heap.size = b1 at *
    have hb1 : b1 < wc.heap.size := (Array.getElem?_eq_some_iff.1 HWI.out.box).1
    have hb2 : b1 + 1 < wc.heap.size := (Array.getElem?_eq_some_iff.1 HWI.out.ebx).1
    have xb0 : wc.cell? ⟨b1, 0, none⟩ = some (.int .i64 n) := cell_of_row _ _ 0 _ _ _ HWI.out.box
    have xb1 : wc.cell? ⟨b1, 1, none⟩ = some (.slice mo ms.length mc) := cell_of_row _ _ 1 _ _ _ HWI.out.box
    have xd0 : wc.cell? ⟨b1 + 1, 0, none⟩ = some (.int .i64 e1) := cell_of_row _ _ 0 _ _ _ HWI.out.ebx
    have xd1 : wc.cell? ⟨b1 + 1, 1, none⟩ = some (.int .i64 e2) := cell_of_row _ _ 1 _ _ _ HWI.out.ebx
    have xd2 : wc.cell? ⟨b1 + 1, 2, none⟩ = some (.int .i64 e3) := cell_of_row _ _ 2 _ _ _ HWI.out.ebx
    have HCM := Lib.hid (fun W (h : Below wc.heap.size wc W) => edges_cells (HWI.out.ed.below h (Nat.le_refl _)))
    have HLM := Lib.hid (flatE_len ms)
    refine A1 _ _ ?_
    clear A1 K1
    go_upto_region 20 with fail
    rename_i K2 A2
    go_region_law (first
      | (refine step_nil_append rfl _ _ 22 rfl wc.heap.size 40 i0 _ 3 24 Try.underlying22 hi0 hz0 hz1 hz2 rfl (by omega) rfl mo ms.length mc rfl (flatE ms) HLM.out (HCM.out _ (by first | exact Below.refl _ _ | exact (Below.refl _ _).drew | exact ((Below.refl _ _).alloc (Nat.le_refl _) _) | exact ((Below.refl _ _).drew.alloc (Nat.le_refl _) _) | exact ((Below.refl _ _).alloc (Nat.le_refl _) _).drew)) flatE_one (by unfold maxLen; omega) (by omega) (by simp; try omega) ?_; intro vA wA hown1 hgrow1; have HBA : Below wc.heap.size wc wA := Below.grown (by first | exact Below.refl _ _ | exact (Below.refl _ _).drew | exact ((Below.refl _ _).alloc (Nat.le_refl _) _) | exact ((Below.refl _ _).drew.alloc (Nat.le_refl _) _) | exact ((Below.refl _ _).alloc (Nat.le_refl _) _).drew) hgrow1 (by simp; try omega) (fun k e => by cases e); have hbA := Nat.lt_of_lt_of_le hb2 HBA.size; have xA0 := (HBA.cell (p := ⟨b1 + 1, 0, none⟩) hb2).trans xd0; have xA1 := (HBA.cell (p := ⟨b1 + 1, 1, none⟩) hb2).trans xd1; have xA2 := (HBA.cell (p := ⟨b1 + 1, 2, none⟩) hb2).trans xd2)
      | (refine step_append_lies _ rfl _ _ 22 rfl wc.heap.size 40 i0 _ 3 24 Try.underlying22 hi0 hz0 hz1 hz2 rfl (by omega) vA ms.length (flatE ms) rfl (hown1.alloc _) ⟨wA.heap.size, 0, none⟩ 1 1 [.int .i64 e1, .int .i64 e2, .int .i64 e3] rfl rfl (World.news_of_block (cs := #[.int .i64 e1, .int .i64 e2, .int .i64 e3]) (t := 40) (fr := (0, 0)) (heap_alloc_new wA _)) (by simp [Value.oneCell']) (by omega) (by unfold maxLen; omega) (by omega) (by have := HBA.size; simp; omega) (wA.heap.size + 1) (by simp) ?_; intro g' cp wB2 hown2 hgrow2 hat hlt; have HB2 := Lib.hid (row_below hown1 hgrow2 HBA HBA.size); have HO2 := Lib.hid hown2; have hbx := (HB2.out.block b1 hb1).trans HWI.out.box; have y0 := cell_of_row wB2 b1 0 _ _ _ hbx; have y1 := cell_of_row wB2 b1 1 _ _ _ hbx; have yf := frozen_of_row wB2 b1 1 _ _ hbx; have HK := Lib.hid (HWI.out.made HB2.out hb1 HO2.out hms); clear hown1 hgrow1 hown2 hgrow2 hat hlt HBA hbx HO2 y0)
      | (refine step_append_lies _ rfl _ _ 22 rfl wc.heap.size 40 i0 _ 3 24 Try.underlying22 hi0 hz0 hz1 hz2 rfl (by omega) vA ms.length (flatE ms) rfl hown1 ⟨wc.heap.size, 0, none⟩ 1 1 [.int .i64 e1, .int .i64 e2, .int .i64 e3] rfl rfl (World.news_of_block (cs := #[.int .i64 e1, .int .i64 e2, .int .i64 e3]) (t := 40) (fr := (0, 0)) ((hgrow1.block wc.heap.size (by simp) (fun e => by cases e)).trans (heap_alloc_new wc _))) (by simp [Value.oneCell']) (by omega) (by unfold maxLen; omega) (by omega) HBA.size wA.heap.size rfl ?_; intro g' cp wB2 hown2 hgrow2 hat hlt; have HB2 := Lib.hid (HBA.grown hgrow2 HBA.size (fun k hk => (hown1.lt k hk).1)); have HO2 := Lib.hid hown2; have hbx := (HB2.out.block b1 hb1).trans HWI.out.box; have y0 := cell_of_row wB2 b1 0 _ _ _ hbx; have y1 := cell_of_row wB2 b1 1 _ _ _ hbx; have yf := frozen_of_row wB2 b1 1 _ _ hbx; have HK := Lib.hid (HWI.out.made HB2.out hb1 HO2.out hms); clear hown1 hgrow1 hown2 hgrow2 hat hlt HBA hbx HO2 y0))
    all_goals
      refine A2 _ _ ?_
      clear A2 K2
      clear xb0 xb1 xd0 xd1 xd2 xA0 xA1 xA2 y1 yf HCM HLM HWI
      generalize wB2.setCell _ _ = wS at *
      generalize (Value.slice (some ⟨g', 0, none⟩) (ms.length + 1) cp) = vS at *
      have hrb := rightB_false HNR.out
      have CR := Lib.hid (fun w' (hu : EdgesAt w' vS (ms ++ [(e1, e2, e3)])) => right_any (n := n) (w := w') vS hu false hrb)
      have CS := Lib.hid (fun w' (hu : EdgesAt w' vS (ms ++ [(e1, e2, e3)])) => strong_any (n := n) (w := w') vS hu false (strongB_false fun h => HNR.out h.1))
      have CO := Lib.hid (fun w' (hu : EdgesAt w' vS (ms ++ [(e1, e2, e3)])) => by have := out_any (n := n) (w := w') vS hu 0; rw [show outL n (ms ++ [(e1, e2, e3)]) 0 = [] by unfold outL; rw [hrb]; rfl] at this; exact this)
      have CH := Lib.hid (fun w' (hu : EdgesAt w' vS (ms ++ [(e1, e2, e3)])) => by have := reach_any (n := n) (w := w') vS (.slice none 0 0) hu [] (IntsAt.nil w' 0) 0; rw [show reachL n (ms ++ [(e1, e2, e3)]) [] 0 = [] by unfold reachL; rw [hrb]; rfl] at this; exact this)
      have C00 := Lib.hid (fun w' => right_any (n := 0) (es := []) (w := w') (.slice none 0 0) (EdgesAt.nil w' 0) false right_00)
      have C41 := Lib.hid (fun w' => right_any (n := 41) (es := []) (w := w') (.slice none 0 0) (EdgesAt.nil w' 0) false right_41)
      have C40 := Lib.hid (fun w' => right_any (n := 40) (es := []) (w := w') (.slice none 0 0) (EdgesAt.nil w' 0) true right_40)
      clear hrb
      have c0 := HK.out.box.c0
      have c1 := HK.out.box.c1
      go_wp2_with (first
        | (go_at_call 20; (with_reducible refine (CR.out _ HK.out.ed).mono ?_); rintro e w3 ⟨rfl, hb⟩; have HK3 := Lib.hid (HK.out.grow hb); have d0 := HK3.out.box.c0; have d1 := HK3.out.box.c1; clear hb)
        | (go_at_call 22; (with_reducible refine (CS.out _ HK3.out.ed).mono ?_); rintro e w4 ⟨rfl, hb⟩; have HK4 := Lib.hid (HK3.out.grow hb); have f0 := HK4.out.box.c0; have f1 := HK4.out.box.c1; clear hb)
        | (go_at_call 16; (with_reducible refine (CO.out _ HK4.out.ed).mono ?_); rintro e w5 ⟨v5, rfl, hv5, hb⟩; have HK5 := Lib.hid (HK4.out.grow hb); obtain ⟨o5, p5, rfl⟩ := hv5.form; have g0 := HK5.out.box.c0; have g1 := HK5.out.box.c1; clear hb hv5)
        | (go_at_call 18; (with_reducible refine (CH.out _ HK5.out.ed).mono ?_); rintro e w6 ⟨v6, rfl, hv6, hb⟩; have HK6 := Lib.hid (HK5.out.grow hb); obtain ⟨o6, p6, rfl⟩ := hv6.form; clear hb hv6)
        | (go_at_call 20; (with_reducible refine (C00.out _).mono ?_); rintro e w7 ⟨rfl, hb⟩; have HK7 := Lib.hid (HK6.out.grow hb); clear hb)
        | (go_at_call 20; (with_reducible refine (C41.out _).mono ?_); rintro e w8 ⟨rfl, hb⟩; have HK8 := Lib.hid (HK7.out.grow hb); clear hb)
        | (go_at_call 20; (with_reducible refine (C40.out _).mono ?_); rintro e w9 ⟨rfl, hb⟩; have HK9 := Lib.hid (HK8.out.grow hb); clear hb))
      rw [← HQ.out]
      exact ⟨rfl, HK9.out.below⟩
/-- As the row hands it over. -/
theorem lwrong_row (a : Int) (rv : Value) (L : List Ed) (f : Int) (w : World) (h0 : -9223372036854775808 ≤ a) (h1 : a ≤ 9223372036854775807) (hL : EdgesAt w rv L ∧ RawB L) (f0 : -9223372036854775808 ≤ f) (f1 : f ≤ 9223372036854775807) :
    Calls Try.prog 8 #[.int .i64 a, rv, .int .i64 f] w (Ret (.bool true) w) := lwrong_walk a ⟨h0, h1⟩ rv L hL.1 hL.2 f ⟨f0, f1⟩
end Go.Proofs.Ytcbfjkigmlmohaa.Ly
