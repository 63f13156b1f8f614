import Derived.Test.YthmblgfcjbiomaaRk
import Derived.Deep.AppendLies
/- Route. -/
set_option linter.unusedVariables false
set_option linter.unusedSimpArgs false
namespace Go.Proofs.Ythmblgfcjbiomaa.Rt
open Go.RowKit Go.Shelf Ly
attribute [local go_sem] Oper.semAt_some

/-- A slice of numbers of one's own, and an error. -/
def RetTwo (r : List Int × Int) (w : World) (e : Ending) (w' : World) : Prop := ∃ v, e = .returned (.tuple #[v, .int .i64 r.2]) ∧ w'.ownsRow w.heap.size 3 1 v r.1.length (intC r.1) ∧ Below w.heap.size w w'
theorem route_no {n : Int} {es : List Ed} {w : World} (v bv : Value) (hv : EdgesAt w v es) (bl : List Int) (a b : Int) (h : (rightB n es && (nodeB n a && nodeB n b)) = false) :
    Calls Try.prog 12 #[.agg #[.int .i64 n, v], bv, .int .i64 a, .int .i64 b] w (RetTwo ([], 1) w) := by
  have HB0 : Hid (Below w.heap.size w ((w.alloc (.cells #[.int .i64 n, v] 24)).alloc (.cells #[.int .i64 a] 3))) := ((Below.refl _ w).alloc (Nat.le_refl _) _).alloc (by simp) _
  have hba : Below (w.alloc (.cells #[.int .i64 n, v] 24)).heap.size (w.alloc (.cells #[.int .i64 n, v] 24)) ((w.alloc (.cells #[.int .i64 n, v] 24)).alloc (.cells #[.int .i64 a] 3)) := (Below.refl _ _).alloc (Nat.le_refl _) _
  have HX0 := Lib.hid ((BoxAt.new n v w).below hba)
  have HV := Lib.hid (hv.below HB0.out (Nat.le_refl _))
  have hA := cell_of_row _ _ 0 _ _ _ (heap_alloc_new (w.alloc (.cells #[.int .i64 n, v] 24)) (.cells #[.int .i64 a] 3))
  have hAl : w.heap.size + 1 < ((w.alloc (.cells #[.int .i64 n, v] 24)).alloc (.cells #[.int .i64 a] 3)).heap.size := by simp
  rw [World.size_alloc] at hA
  have HA := Lib.hid hA
  have c0 := HX0.out.c0
  have c1 := HX0.out.c1
  obtain ⟨Q, HQ⟩ : ∃ Q, Hid (RetTwo ([], 1) w = Q) := ⟨_, rfl⟩
  rw [HQ.out]
  clear hA hba
  cases hr : rightB n es with
  | false =>
    have C := Lib.hid (fun u w' hu => right_any (n := n) (es := es) (w := w') u hu false hr)
    clear hr hv h
    go_enter Try.func12, Try.ntmps12
    go_upto_region 1 with fail
    generalize (w.alloc (.cells #[.int .i64 n, v] 24)).alloc (.cells #[.int .i64 a] 3) = w0 at *
    go_wp2_with (go_at_call 25; (with_reducible refine (C.out _ _ HV.out).mono ?_); rintro e w1 ⟨rfl, hb1⟩; have HB1 := Lib.hid (HB0.out.trans (hb1.mono HB0.out.size)); clear hb1)
    rw [← HQ.out]
    exact ⟨_, rfl, World.ownsRow_nil _ _ _ _, HB1.out⟩
  | true =>
    rw [hr, Bool.true_and] at h
    have C := Lib.hid (fun u w' hu => right_any (n := n) (es := es) (w := w') u hu true hr)
    obtain ⟨ta, hta⟩ : ∃ t, nodeB n a = t := ⟨_, rfl⟩
    have C2 := Lib.hid (fun w' => node12_any n a v w' ta hta)
    rw [hta] at h
    clear hr hv hta
    cases ta with
    | false =>
      clear h
      go_enter Try.func12, Try.ntmps12
      go_upto_region 1 with fail
      generalize (w.alloc (.cells #[.int .i64 n, v] 24)).alloc (.cells #[.int .i64 a] 3) = w0 at *
      go_wp2_with (first
        | (go_at_call 25; (with_reducible refine (C.out _ _ HV.out).mono ?_); rintro e w1 ⟨rfl, hb1⟩; have HB1 := Lib.hid (HB0.out.trans (hb1.mono HB0.out.size)); have HX1 := Lib.hid (HX0.out.below hb1); have c0 := HX1.out.c0; have c1 := HX1.out.c1; have cA := (hb1.cell (p := ⟨w.heap.size + 1, 0, none⟩) hAl).trans HA.out; clear hb1)
        | (go_at_call 26; (with_reducible refine (C2.out _).mono ?_); rintro e w2 ⟨rfl, hb2⟩; have HB2 := Lib.hid (HB1.out.trans (hb2.mono HB1.out.size)); clear hb2))
      rw [← HQ.out]
      exact ⟨_, rfl, World.ownsRow_nil _ _ _ _, HB2.out⟩
    | true =>
      rw [Bool.true_and] at h
      have C3 := Lib.hid (fun w' => node12_any n b v w' false h)
      clear h
      go_enter Try.func12, Try.ntmps12
      go_upto_region 1 with fail
      generalize (w.alloc (.cells #[.int .i64 n, v] 24)).alloc (.cells #[.int .i64 a] 3) = w0 at *
      go_wp2_with (first
        | (go_at_call 25; (with_reducible refine (C.out _ _ HV.out).mono ?_); rintro e w1 ⟨rfl, hb1⟩; have HB1 := Lib.hid (HB0.out.trans (hb1.mono HB0.out.size)); have HX1 := Lib.hid (HX0.out.below hb1); have c0 := HX1.out.c0; have c1 := HX1.out.c1; have cA := (hb1.cell (p := ⟨w.heap.size + 1, 0, none⟩) hAl).trans HA.out; clear hb1)
        | (go_at_call 26; (with_reducible refine (C2.out _).mono ?_); rintro e w2 ⟨rfl, hb2⟩; have HB2 := Lib.hid (HB1.out.trans (hb2.mono HB1.out.size)); have HX2 := Lib.hid (HX1.out.below hb2); have c0 := HX2.out.c0; have c1 := HX2.out.c1; clear hb2)
        | (go_at_call 26; (with_reducible refine (C3.out _).mono ?_); rintro e w3 ⟨rfl, hb3⟩; have HB3 := Lib.hid (HB2.out.trans (hb3.mono HB2.out.size)); clear hb3))
      rw [← HQ.out]
      exact ⟨_, rfl, World.ownsRow_nil _ _ _ _, HB3.out⟩
/-- Route's boxes: the layout's, the node's, the row of edges, the flag. -/
structure RtI (n : Int) (v : Value) (a : Int) (w wr : World) (ob gb : Nat) (o : List Int) (t : Bool) : Prop where
  below : Below w.heap.size w wr
  box : BoxAt n v wr w.heap.size
  at_ : wr.cell? ⟨w.heap.size + 1, 0, none⟩ = some (.int .i64 a)
  row : IRow wr ob 49 o
  len : o.length = 40
  flag : wr.heap[gb]? = some (.cells #[.bool t] 4 (0, 0))
  ge : w.heap.size + 1 < ob
  ge2 : w.heap.size + 1 < gb
  ne : ob ≠ gb
theorem RtI.glt {n : Int} {v : Value} {a : Int} {w wr : World} {ob gb : Nat} {o : List Int} {t : Bool} (h : RtI n v a w wr ob gb o t) : gb < wr.heap.size := (Array.getElem?_eq_some_iff.1 h.flag).1
theorem RtI.alt {n : Int} {v : Value} {a : Int} {w wr : World} {ob gb : Nat} {o : List Int} {t : Bool} (h : RtI n v a w wr ob gb o t) : w.heap.size + 1 < wr.heap.size := by have := h.glt; have := h.ge2; omega
theorem RtI.fc {n : Int} {v : Value} {a : Int} {w wr : World} {ob gb : Nat} {o : List Int} {t : Bool} (h : RtI n v a w wr ob gb o t) : wr.cell? ⟨gb, 0, none⟩ = some (.bool t) := by rw [cell_of_row _ _ 0 _ _ _ h.flag]; rfl
theorem RtI.ff {n : Int} {v : Value} {a : Int} {w wr : World} {ob gb : Nat} {o : List Int} {t : Bool} (h : RtI n v a w wr ob gb o t) : wr.frozen? ⟨gb, 0, none⟩ = false := frozen_of_row _ _ 0 _ _ h.flag
theorem RtI.abide {n : Int} {v : Value} {a : Int} {w X Y : World} {ob gb B : Nat} {o : List Int} {t : Bool} (h : RtI n v a w X ob gb o t) (hb : Below B X Y) (h1 : ob < B) (h2 : gb < B) : RtI n v a w Y ob gb o t := by
  have g1 := h.ge
  exact ⟨h.below.trans (hb.mono (by omega)), h.box.belowB hb (by omega), (hb.cell (p := ⟨w.heap.size + 1, 0, none⟩) (by show w.heap.size + 1 < B; omega)).trans h.at_, h.row.keep (hb.block _ h1), h.len, (hb.block _ h2).trans h.flag, h.ge, h.ge2, h.ne⟩
theorem RtI.grow {n : Int} {v : Value} {a : Int} {w X Y : World} {ob gb : Nat} {o : List Int} {t : Bool} (h : RtI n v a w X ob gb o t) (hb : Below X.heap.size X Y) : RtI n v a w Y ob gb o t := h.abide hb h.row.lt h.glt
theorem RtI.other {n : Int} {v : Value} {a : Int} {w wr : World} {ob gb : Nat} {o : List Int} {t : Bool} (h : RtI n v a w wr ob gb o t) {g : Nat} (hg : w.heap.size + 1 < g) (i : Nat) (u : Value) : Below w.heap.size w (wr.setCell ⟨g, i, none⟩ u) ∧ BoxAt n v (wr.setCell ⟨g, i, none⟩ u) w.heap.size ∧ (wr.setCell ⟨g, i, none⟩ u).cell? ⟨w.heap.size + 1, 0, none⟩ = some (.int .i64 a) := by
  refine ⟨h.below.setCell (p := ⟨g, i, none⟩) (by show w.heap.size ≤ g; omega) _, ⟨?_, ?_, ?_⟩, ?_⟩
  · rw [World.cell?_setCell_other _ _ _ _ (fun e => by have := congrArg Addr.block e; simp at this; omega)]; exact h.box.c0
  · rw [World.cell?_setCell_other _ _ _ _ (fun e => by have := congrArg Addr.block e; simp at this; omega)]; exact h.box.c1
  · have := h.box.lt; simpa using this
  · rw [World.cell?_setCell_other _ _ _ _ (fun e => by have := congrArg Addr.block e; simp at this; omega)]; exact h.at_
theorem RtI.set {n : Int} {v : Value} {a : Int} {w wr : World} {ob gb : Nat} {o : List Int} {t : Bool} (h : RtI n v a w wr ob gb o t) (i : Nat) (x : Int) : RtI n v a w (wr.setCell ⟨ob, i, none⟩ (.int .i64 x)) ob gb (o.set i x) t := by
  obtain ⟨h1, h2, h3⟩ := h.other h.ge i (.int .i64 x)
  exact ⟨h1, h2, h3, h.row.set i x, by simpa using h.len, (heap_setCell_other wr ⟨ob, i, none⟩ gb _ (fun e => h.ne e.symm)).trans h.flag, h.ge, h.ge2, h.ne⟩
theorem RtI.mark {n : Int} {v : Value} {a : Int} {w wr : World} {ob gb : Nat} {o : List Int} {t : Bool} (h : RtI n v a w wr ob gb o t) : RtI n v a w (wr.setCell ⟨gb, 0, none⟩ (.bool true)) ob gb o true := by
  obtain ⟨h1, h2, h3⟩ := h.other h.ge2 0 (.bool true)
  exact ⟨h1, h2, h3, (heap_setCell_other wr ⟨gb, 0, none⟩ ob _ h.ne).trans h.row, h.len, by rw [heap_setCell_same wr gb 0 _ _ _ h.flag]; rfl, h.ge, h.ge2, h.ne⟩
theorem RtI.start {n : Int} {v : Value} {a : Int} {w w3 : World} (hb : Below w.heap.size w w3) (hx : BoxAt n v w3 w.heap.size) (hA : w3.cell? ⟨w.heap.size + 1, 0, none⟩ = some (.int .i64 a)) (hl : w.heap.size + 1 < w3.heap.size) (t : Bool) :
    RtI n v a w ((w3.alloc (.cells (intC (List.replicate 40 0)).toArray 49)).alloc (.cells #[.bool t] 4)) w3.heap.size (w3.heap.size + 1) (List.replicate 40 0) t := by
  have h1 : Below w3.heap.size w3 ((w3.alloc (.cells (intC (List.replicate 40 0)).toArray 49)).alloc (.cells #[.bool t] 4)) := ((Below.refl _ w3).alloc (Nat.le_refl _) _).alloc (by simp) _
  have h2 : Below (w3.heap.size + 1) (w3.alloc (.cells (intC (List.replicate 40 0)).toArray 49)) ((w3.alloc (.cells (intC (List.replicate 40 0)).toArray 49)).alloc (.cells #[.bool t] 4)) := (Below.refl _ _).alloc (by simp) _
  refine ⟨hb.trans (h1.mono hb.size), hx.below h1, (h1.cell (p := ⟨w.heap.size + 1, 0, none⟩) hl).trans hA, (IRow.new w3 _ _).keep (h2.block _ (by omega)), by simp, ?_, hl, by omega, by omega⟩
  have h3 := heap_alloc_new (w3.alloc (.cells (intC (List.replicate 40 0)).toArray 49)) (.cells #[.bool t] 4)
  rw [World.size_alloc] at h3
  exact h3
theorem own_put {W : World} {B B' D n : Nat} {e : TypeId} {sz : Nat} {v : Value} {xs : List Value} {o : Obj} (h : W.ownsRow B e sz v n xs) (hne : ∀ g, v.ownBlock = some g → g ≠ D) (hle : B' ≤ B) : (W.putObj D o).ownsRow B' e sz v n xs := by
  refine ⟨h.1, ?_⟩
  rcases h.2 with hn | ⟨b, cap, cur, hv, hbg, hh, hr⟩
  · exact .inl hn
  · exact .inr ⟨b, cap, cur, hv, Nat.le_trans hle hbg, (World.putObj_heap_other (hne b (by rw [hv]; rfl))).trans hh, hr⟩
theorem zeroO : (#[.int .i64 0, .int .i64 0, .int .i64 0, .int .i64 0, .int .i64 0, .int .i64 0, .int .i64 0, .int .i64 0, .int .i64 0, .int .i64 0, .int .i64 0, .int .i64 0, .int .i64 0, .int .i64 0, .int .i64 0, .int .i64 0, .int .i64 0, .int .i64 0, .int .i64 0, .int .i64 0, .int .i64 0, .int .i64 0, .int .i64 0, .int .i64 0, .int .i64 0, .int .i64 0, .int .i64 0, .int .i64 0, .int .i64 0, .int .i64 0, .int .i64 0, .int .i64 0, .int .i64 0, .int .i64 0, .int .i64 0, .int .i64 0, .int .i64 0, .int .i64 0, .int .i64 0, .int .i64 0] : Array Value) = (intC (List.replicate 40 0)).toArray := rfl

set_option maxHeartbeats 8000000 in
set_option maxRecDepth 100000 in
theorem route_yes {n : Int} {es : List Ed} {w : World} (v bv : Value) (hv : EdgesAt w v es) (bl : List Int) (hb : IntsAt w bv bl) (a b : Int) (hr : RightL n es) (hna : nodeB n a = true) (hnb : nodeB n b = true) :
    Calls Try.prog 12 #[.agg #[.int .i64 n, v], bv, .int .i64 a, .int .i64 b] w (RetTwo (routeS n es bl a b) w) := by
  have HB0 : Hid (Below w.heap.size w ((w.alloc (.cells #[.int .i64 n, v] 24)).alloc (.cells #[.int .i64 a] 3))) := ((Below.refl _ w).alloc (Nat.le_refl _) _).alloc (by simp) _
  have hba : Below (w.alloc (.cells #[.int .i64 n, v] 24)).heap.size (w.alloc (.cells #[.int .i64 n, v] 24)) ((w.alloc (.cells #[.int .i64 n, v] 24)).alloc (.cells #[.int .i64 a] 3)) := (Below.refl _ _).alloc (Nat.le_refl _) _
  have HX0 := Lib.hid ((BoxAt.new n v w).below hba)
  have HV := Lib.hid (hv.below HB0.out (Nat.le_refl _))
  have hA := cell_of_row _ _ 0 _ _ _ (heap_alloc_new (w.alloc (.cells #[.int .i64 n, v] 24)) (.cells #[.int .i64 a] 3))
  have hAl : w.heap.size + 1 < ((w.alloc (.cells #[.int .i64 n, v] 24)).alloc (.cells #[.int .i64 a] 3)).heap.size := by simp
  rw [World.size_alloc] at hA
  have HA := Lib.hid hA
  have c0 := HX0.out.c0
  have c1 := HX0.out.c1
  obtain ⟨Q, HQ⟩ : ∃ Q, Hid (RetTwo (routeS n es bl a b) w = Q) := ⟨_, rfl⟩
  rw [HQ.out]
  have C := Lib.hid (fun u w' hu => right_any (n := n) (es := es) (w := w') u hu true (rightB_true hr))
  have C2 := Lib.hid (fun w' => node12_any n a v w' true hna)
  have C3 := Lib.hid (fun w' => node12_any n b v w' true hnb)
  have HOK : Hid ((rightB n es && (nodeB n a && nodeB n b)) = true) := by show _ = true; rw [rightB_true hr, hna, hnb]; rfl
  obtain ⟨a0, a1⟩ := nodeB_iff.1 hna
  obtain ⟨b0, b1⟩ := nodeB_iff.1 hnb
  have HE := Lib.hid hv
  have HI := Lib.hid hb
  obtain ⟨eo, ce, rfl⟩ := slE hv
  obtain ⟨bo, cb, rfl⟩ := slI hb
  have n40 := hr.2.1
  have n1 := hr.1
  clear hA hba hv hb hna hnb
  have HZ := zeroO
  obtain ⟨Z0, hZ0⟩ : ∃ Z, Hid ((intC (List.replicate 40 0)).toArray = Z) := ⟨_, rfl⟩
  rw [hZ0.out] at HZ
  refine (callsIn_wide (n := 6)).1 ?_
  refine callsIn_of_wp_marks Try.func12 rfl trivial ?_ rfl
  simp only [Try.ntmps12, List.size_toArray, List.length_cons, List.length_nil, Nat.reduceAdd, Nat.reduceSub, Array.replicate_succ, Array.replicate_zero, List.push_toArray, List.append_toArray, List.nil_append, List.cons_append]
  refine (wpIn_wide (n := 6)).2 ?_
  go_upto_region 1 with fail
  generalize (w.alloc (.cells #[.int .i64 n, .slice eo es.length ce] 24)).alloc (.cells #[.int .i64 a] 3) = w0 at *
  go_upto_region 3 with (first
        | (go_at_call 25; (with_reducible refine (C.out _ _ HV.out).mono ?_); rintro e w1 ⟨rfl, hb1⟩; have HB1 := Lib.hid (HB0.out.trans (hb1.mono HB0.out.size)); have HX1 := Lib.hid (HX0.out.below hb1); have c0 := HX1.out.c0; have c1 := HX1.out.c1; have cA := (hb1.cell (p := ⟨w.heap.size + 1, 0, none⟩) hAl).trans HA.out; have hAl1 := Nat.lt_of_lt_of_le hAl hb1.size; clear hb1)
        | (go_at_call 26; (with_reducible refine (C2.out _).mono ?_); rintro e w2 ⟨rfl, hb2⟩; have HB2 := Lib.hid (HB1.out.trans (hb2.mono HB1.out.size)); have HX2 := Lib.hid (HX1.out.below hb2); have c0 := HX2.out.c0; have c1 := HX2.out.c1; have cA2 := Lib.hid ((hb2.cell (p := ⟨w.heap.size + 1, 0, none⟩) hAl1).trans cA); have hAl2 := Nat.lt_of_lt_of_le hAl1 hb2.size; clear hb2)
        | (go_at_call 26; (with_reducible refine (C3.out _).mono ?_); rintro e w3 ⟨rfl, hb3⟩; have HB3 := Lib.hid (HB2.out.trans (hb3.mono HB2.out.size)); have HX3 := Lib.hid (HX2.out.below hb3); have cA3 := Lib.hid ((hb3.cell (p := ⟨w.heap.size + 1, 0, none⟩) hAl2).trans cA2.out); have hAl3 := Nat.lt_of_lt_of_le hAl2 hb3.size; clear hb3))
  have HST := Lib.hid (RtI.start HB3.out HX3.out cA3.out hAl3 (a == b))
  rw [hZ0.out] at HST
  have cA := cA3.out
  clear C C2 C3 HB1 HX1 HB2 HX2 cA2 HB3 HX3 hAl hAl1 hAl2 HB0 HX0 HV HA c0 c1
  go_upto_region 5 with fail
  clear HZ
  generalize (w3.alloc (.cells Z0 49)).alloc (.cells #[.bool (a == b)] 4) = w4 at *
  generalize w3.heap.size + 1 = gb at *
  generalize w3.heap.size = ob at *
  obtain ⟨t, ht⟩ : ∃ t, (a == b) = t := ⟨_, rfl⟩
  rw [ht] at HST ⊢
  have HT := Lib.hid ht
  clear ht cA cA3 hAl3 hZ0
  obtain ⟨bn, rfl⟩ : ∃ bn : Nat, b = (bn : Int) := ⟨b.toNat, by omega⟩
  have c0 := HST.out.box.c0
  have c1 := HST.out.box.c1
  go_wp2_with (go_at_call 27; (with_reducible refine (costs_any _ _ _ _ _ _ _ _ _).mono ?_); rintro e w5 ⟨rfl, hb5, hs5, h51, h52, h53⟩)
  clear c0 c1
  have HS5 := Lib.hid (HST.out.grow hb5)
  have hol := HS5.out.row.lt
  have hgl := HS5.out.glt
  have hge := HS5.out.ge
  have hge2 := HS5.out.ge2
  have HSP := farL_spec (bl := bl) hr b0 b1
  have HSEQ := Lib.hid (costs_seq (T := fun i => i = ob ∨ i = gb) 5 (by omega) hr HSP.2.1 (farL_le hr b0 b1) b0 b1 HE.out HI.out HS5.out.below h51 h52 h53 (by omega) (by omega) (by omega) (fun i hi => by rcases hi with rfl | rfl; exact ⟨hol, by omega⟩; exact ⟨hgl, by omega⟩))
  clear h51 h52 h53
  refine (wpIn_wide (n := 6)).1 ?_
  refine wpIn_rangeFunc_ownT (by rfl) (by omega) (gf := 34) rfl trivial (enters_of Try.func34 (by kernel_rfl) rfl) HSEQ.out (fun _ => rfl) (fun i hi => by rcases hi with rfl | rfl; exact hol; exact hgl)
    (fun pre W => Hid (RtI n (.slice eo es.length ce) a w W ob gb (accO es (List.replicate 40 0) pre) t) ∧ Hid (∀ y ∈ pre, (ate es y.1).1 ≠ a))
    (fun c pre W => c = .exit 0 ∧ Hid (RtI n (.slice eo es.length ce) a w W ob gb (accO es (List.replicate 40 0) pre) true) ∧ Hid (Dn es bn pre a))
    (fun s X Y hb h => ⟨h.1.out.abide hb hol hgl, h.2⟩) (fun c s X Y hb h => ⟨h.1, h.2.1.out.abide hb hol hgl, h.2.2⟩) ⟨HS5, fun y hy => by simp at hy⟩
    (fun x : Nat × Int => { tmps := #[Value.agg #[Value.int .i64 n, Value.slice eo es.length ce], Value.slice bo bl.length cb, Value.int .i64 a, Value.int .i64 (bn : Int), Value.pointer (some ⟨w.heap.size, 0, none⟩), undef, Value.pointer (some ⟨w.heap.size + 1, 0, none⟩), undef, Value.slice none 0 0, Value.int .i64 0, Value.pointer (some ⟨ob, 0, none⟩), Value.pointer (some ⟨gb, 0, none⟩), Value.int .i64 (x.1 : Int), undef, undef, undef, Value.agg #[Value.int .i64 n, Value.slice eo es.length ce], Value.bool true, Value.bool false, Value.bool false, Value.agg #[Value.int .i64 n, Value.slice eo es.length ce], Value.int .i64 a, Value.bool true, Value.bool false, Value.bool false, Value.bool false, Value.agg #[Value.int .i64 n, Value.slice eo es.length ce], Value.int .i64 (bn : Int), Value.bool true, Value.bool false, Value.bool false, Value.int .i64 a, Value.int .i64 (bn : Int), Value.bool t, Value.agg #[Value.int .i64 n, Value.slice eo es.length ce], Value.slice bo bl.length cb, Value.int .i64 (bn : Int), Value.func (Fn.func 34) #[] #[Value.pointer (some ⟨w4.heap.size, 0, none⟩), Value.pointer (some ⟨w4.heap.size + 1, 0, none⟩), Value.pointer (some ⟨w4.heap.size + 2, 0, none⟩)], Value.int .i64 (x.1 : Int), Value.int .i64 x.2, undef, undef, undef, undef, undef, undef, undef, undef, undef, undef, undef, undef, undef, undef, undef, undef, undef, undef, undef, undef, undef, undef, undef, undef, undef, undef, undef, undef, undef, undef, undef, undef, undef], defers := [] }) ?assign ?body ?done ?stop
  case assign =>
    intro l x W K hK
    gi_wp2
    exact hK
  case body =>
    rintro l pre ⟨j, c⟩ W hsz ⟨HIW, HNA⟩ hem
    obtain ⟨hj, hjb, _, hjc, _⟩ := hem.mem (j, c) (List.mem_append_right _ (List.mem_singleton_self _))
    dsimp only at hj hjb hjc
    obtain ⟨⟨f0, f1⟩, _⟩ := hr.at hj
    obtain ⟨u, hu⟩ : ∃ u : Nat, (ate es j).1 = (u : Int) := ⟨(ate es j).1.toNat, by omega⟩
    have huk : u < 40 := by omega
    obtain ⟨ao, ac, he1, he2, he3⟩ := HE.out
    cases he1
    obtain ⟨eb, eof, rfl, lb, hcs⟩ := he3 (by omega)
    have g0 := (HIW.out.below.cell (p := ⟨eb, eof + j * 3, none⟩) lb).trans (hcs j hj).1
    rw [hu] at g0
    have x1 := HIW.out.box.c1
    have x2 := HIW.out.row.cell (i := u) (by rw [HIW.out.len]; exact huk)
    have x3 := HIW.out.row.thaw u
    have HS6 : Hid (RtI n (.slice (some ⟨eb, eof, none⟩) es.length ce) a w (W.setCell ⟨ob, u, none⟩ (.int .i64 j)) ob gb (accO es (List.replicate 40 0) (pre ++ [(j, c)])) t) := by
      show RtI _ _ _ _ _ _ _ _ _
      rw [accO_snoc, hu]
      exact HIW.out.set u j
    have HK6 : Hid (Kt (fun i => i = ob ∨ i = gb) W (W.setCell ⟨ob, u, none⟩ (.int .i64 j))) := Kt.set W ⟨ob, u, none⟩ _ (.inl rfl)
    have HU := Lib.hid hu
    have xa := HS6.out.at_
    have xf := HS6.out.fc
    have xg := HS6.out.ff
    clear he2 he3 hcs hem hjb hjc hu HSEQ HSP
    by_cases hua : (u : Int) = a
    · have HEX : Hid (Kt (fun i => i = ob ∨ i = gb) W ((W.setCell ⟨ob, u, none⟩ (.int .i64 j)).setCell ⟨gb, 0, none⟩ (.bool true)) ∧ RtI n (.slice (some ⟨eb, eof, none⟩) es.length ce) a w ((W.setCell ⟨ob, u, none⟩ (.int .i64 j)).setCell ⟨gb, 0, none⟩ (.bool true)) ob gb (accO es (List.replicate 40 0) (pre ++ [(j, c)])) true ∧ Dn es bn (pre ++ [(j, c)]) a) :=
        ⟨HK6.out.trans (Kt.set _ ⟨gb, 0, none⟩ _ (.inr rfl)), HS6.out.mark, Dn.snoc.2 (.inr (by rw [HU.out, hua]))⟩
      have hua2 : ((u : Int) == a) = true := by simpa using hua
      clear hua HK6 HS6
      gi_wp2
      exact ⟨HEX.out.1, rfl, HEX.out.2.1, HEX.out.2.2⟩
    · have HNA2 : Hid (∀ y ∈ pre ++ [(j, c)], (ate es y.1).1 ≠ a) := fun y hy => by
        rcases List.mem_append.1 hy with hy | hy
        · exact HNA.out y hy
        · rw [List.mem_singleton] at hy
          subst hy
          rw [HU.out]
          exact hua
      have hua2 : ((u : Int) == a) = false := by simpa using hua
      clear hua
      gi_wp2
      exact ⟨HK6.out, HS6, fun k c hy => HNA2.out (k, c) hy⟩
  case done =>
    rintro D pre W hD ⟨hem, hall⟩ ⟨HIW, HNA⟩ hK
    cases t with
    | true =>
      have hdn : Dn es bn pre a := .inl (by simpa using HT.out)
      clear hall
      have x0 := HIW.out.fc
      have xa := HIW.out.at_
      have HBI : Hid (∀ wq, Below W.heap.size W wq → RtI n (.slice eo es.length ce) a w wq ob gb (accO es (List.replicate 40 0) pre) true) := fun wq hq => HIW.out.grow hq
      have HDW : Hid (Below w.heap.size w W) := HIW.out.below
      have hwW : w.heap.size ≤ W.heap.size := HDW.out.size
      have HRS : Hid (routeS n es bl a bn = (toI (routeF es bl bn (gi (farL n es bl bn)) a), 0)) := routeS_way HOK.out (hem.pos hr HSP.2.1 hdn)
      have HRL : Hid ((routeF es bl bn (gi (farL n es bl bn)) a).length ≤ 39000) := routeF_len hr b0 b1 a0 a1
      have HEM := Lib.hid hem
      have HFAR := Lib.hid HSP.2.1
      have HDN : Hid (Dn es bn pre a) := hdn
      have hDl := (Array.getElem?_eq_some_iff.1 hK).1
      clear hem hdn HSEQ HSP
      gi_wp2
      go_wp2_with fail
      go_loopw [14, 15] (fun vo nd wr => ∃ (ws : List Nat) (m : Nat) (x : Int) (vo' : Value), vo' = vo ∧ nd = .int .i64 x ∧ 0 ≤ x ∧ x < n ∧ m ≤ 39000 ∧ Hid (m = ws.length) ∧ Hid (wr.ownsRow W.heap.size 3 1 vo' m (intC (toI ws))) ∧ Hid (routeF es bl bn (gi (farL n es bl bn)) a = ws ++ routeF es bl bn (gi (farL n es bl bn)) x) ∧ Hid (Dn es bn pre x) ∧ Hid (Below W.heap.size W wr)) (fun _ nd _ => (gi (farL n es bl bn) (intOf nd)).toNat)
      case atStart => exact ⟨[], 0, a, _, rfl, rfl, a0, a1, by omega, rfl, World.ownsRow_nil _ _ _ _, rfl, HDN, Below.refl _ _⟩
      case round =>
        obtain ⟨ws, m, x, vo, rfl, rfl, xx0, xx1, hm, HM, HO, HR, HX, HBW⟩ := hrel
        obtain ⟨ao2, cap2, rfl⟩ := row_form HO.out
        clear x0 xa
        by_cases hx : x = (bn : Int)
        · subst hx
          have HFIN : Hid (Q (.returned (.tuple #[.slice ao2 m cap2, .int .i64 0])) (wr.putObj D (.deferred none))) := by
            show Q _ _
            rw [← HQ.out]
            have hg : wr.grownBy (wr.putObj D (.deferred none)) (some D) := grownBy_putObj' wr D _
            have hne : ∀ g, (Value.slice ao2 m cap2).ownBlock = some g → g ≠ D := fun g hgb e => by have := (HO.out.lt g hgb).1; omega
            have e : routeF es bl bn (gi (farL n es bl bn)) a = ws := by rw [HR.out, routeF_at, List.append_nil]
            rw [HRS.out, e]
            refine ⟨_, rfl, ?_, (HDW.out.trans (HBW.out.mono hwW)).trans (below_put wr _ (by omega))⟩
            have h1 := own_put (o := .deferred none) HO.out hne hwW
            rw [HM.out] at h1 ⊢
            simpa [toI] using h1
          have hK2 : wr.heap[D]? = some (.deferred (some [])) := (HBW.out.block D (Array.getElem?_eq_some_iff.1 hK).1).trans hK
          go_wp2_with fail
          refine ⟨by simp, .inl ⟨_, _, rfl, run_takeDeferred hK2, ?_⟩⟩
          refine ⟨.tuple #[.slice ao2 m cap2, .int .i64 0], ?_, HFIN.out⟩
          simp [results, Try.f12, go_sem]
        · obtain ⟨k, s1, s2, s3, s4, s5, s6, s7, s8⟩ := way_step (o := List.replicate 40 0) HEM.out hr HFAR.out (by simp) xx0 xx1 HX.out hx
          obtain ⟨xn, rfl⟩ : ∃ xn : Nat, x = (xn : Int) := ⟨x.toNat, by omega⟩
          rw [Int.toNat_natCast] at s1
          have hx40 : xn < 40 := by omega
          have hx2 : ((xn : Int) == (bn : Int)) = false := by simpa using hx
          obtain ⟨ea, ec2, he1, he2, he3⟩ := HE.out
          cases he1
          obtain ⟨eb, eof, rfl, lb, hcs⟩ := he3 (by omega)
          have HG1 := Lib.hid (hcs k s2).2.1
          have HI3 := Lib.hid (HBI.out wr HBW.out)
          have c1 := HI3.out.box.c1
          have co := HI3.out.row.cell (i := xn) (by rw [HI3.out.len]; exact hx40)
          rw [s1] at co
          have S3 : Hid (routeF es bl bn (gi (farL n es bl bn)) a = (ws ++ [k]) ++ routeF es bl bn (gi (farL n es bl bn)) (ate es k).2.1) := by
            show _ = _
            rw [HR.out, s3, List.append_assoc]
            rfl
          have hm2 : m + 1 ≤ 39000 := by
            have h1 := HRL.out
            rw [S3.out, List.length_append, List.length_append, ← HM.out] at h1
            simp at h1
            omega
          have S1 := Lib.hid s1
          have S4 := Lib.hid s4
          have S5 := Lib.hid s5
          have S8 := Lib.hid s8
          have hws := HBW.out.size
          clear he2 he3 hcs s1 s3 s4 s5 s8 hx
          obtain ⟨i0, hi0, hz0, hz1, hz2⟩ := info_parts int_info
          go_upto_region 16 with (at_builtin; (refine wpList_append_lies _ rfl _ _ 26 rfl W.heap.size 3 i0 _ 1 8 Try.underlying26 hi0 hz0 hz1 hz2 rfl (by omega) _ m (intC (toI ws)) rfl (HO.out.alloc _) ⟨wr.heap.size, 0, none⟩ 1 1 [.int .i64 k] rfl rfl (World.news_of_block (cs := #[.int .i64 k]) (t := 3) (fr := (0, 0)) (heap_alloc_new wr _)) (by simp [Value.oneCell']) (by omega) (by unfold maxLen; omega) (by omega) (by simp; omega) (wr.heap.size + 1) (by simp) ?_); intro g' cp w6 hown hgrow hat hlt4)
          have HB6 := Lib.hid (row_below HO.out hgrow HBW.out hws)
          have HO6 : Hid (w6.ownsRow W.heap.size 3 1 (.slice (some ⟨g', 0, none⟩) (m + 1) cp) (m + 1) (intC (toI (ws ++ [k])))) := by
            show World.ownsRow _ _ _ _ _ _ _
            rw [show intC (toI (ws ++ [k])) = intC (toI ws) ++ [.int .i64 k] by simp [intC, toI]]
            exact hown
          have HM6 : Hid (m + 1 = (ws ++ [k]).length) := by
            show _ = _
            rw [List.length_append, ← HM.out]
            rfl
          clear hown hgrow hat hlt4 c1 co
          have HI6 := Lib.hid (HBI.out w6 HB6.out)
          have c1 := HI6.out.box.c1
          have co := HI6.out.row.cell (i := xn) (by rw [HI6.out.len]; exact hx40)
          rw [S1.out] at co
          have g1 := (HI6.out.below.cell (p := ⟨eb, eof + k * 3 + 1, none⟩) lb).trans HG1.out
          go_quiet (fail)
          go_wp2_with fail
          go_roundw
          case rel => exact ⟨ws ++ [k], m + 1, _, _, rfl, rfl, s6, s7, hm2, HM6, HO6, S3, S8, ⟨HB6.out.os, HB6.out.tape, HB6.out.output, HB6.out.size, HB6.out.block⟩⟩
          case measure =>
            have h1 := S4.out
            have h2 := S5.out
            simp only [intOf]
            omega
    | false =>
      have hneg : gi (farL n es bl bn) a < 0 := by
        rcases Int.lt_or_le (gi (farL n es bl bn) a) 0 with h | h
        · exact h
        · rcases hall a a0 a1 h with e | ⟨y, hy, e⟩
          · have := HT.out
            rw [e] at this
            simp at this
          · exact absurd e (HNA.out y hy)
      have x0 := HIW.out.fc
      have HFIN : Hid (Q (.returned (.tuple #[.slice none 0 0, .int .i64 120])) (W.putObj D (.deferred none))) := by
        show Q _ _
        rw [← HQ.out, routeS_none HOK.out hneg]
        exact ⟨_, rfl, World.ownsRow_nil _ _ _ _, HIW.out.below.trans (below_put W _ (by omega))⟩
      clear hem hall hneg HSEQ HSP
      gi_wp2
      go_wp2_with fail
      refine ⟨by simp, .inl ⟨_, _, rfl, run_takeDeferred hK, ?_⟩⟩
      refine ⟨.tuple #[.slice none 0 0, .int .i64 120], ?_, HFIN.out⟩
      simp [results, Try.f12, go_sem]
  case stop =>
    rintro D c pre W hD hem ⟨rfl, HIW, hdn⟩ hK
    have x0 := HIW.out.fc
    have xa := HIW.out.at_
    have HBI : Hid (∀ wq, Below W.heap.size W wq → RtI n (.slice eo es.length ce) a w wq ob gb (accO es (List.replicate 40 0) pre) true) := fun wq hq => HIW.out.grow hq
    have HDW : Hid (Below w.heap.size w W) := HIW.out.below
    have hwW : w.heap.size ≤ W.heap.size := HDW.out.size
    have HRS : Hid (routeS n es bl a bn = (toI (routeF es bl bn (gi (farL n es bl bn)) a), 0)) := routeS_way HOK.out (hem.pos hr HSP.2.1 hdn)
    have HRL : Hid ((routeF es bl bn (gi (farL n es bl bn)) a).length ≤ 39000) := routeF_len hr b0 b1 a0 a1
    have HEM := Lib.hid hem
    have HFAR := Lib.hid HSP.2.1
    have HDN : Hid (Dn es bn pre a) := hdn
    have hDl := (Array.getElem?_eq_some_iff.1 hK).1
    clear hem hdn HSEQ HSP
    gi_wp2
    go_wp2_with fail
    go_loopw [14, 15] (fun vo nd wr => ∃ (ws : List Nat) (m : Nat) (x : Int) (vo' : Value), vo' = vo ∧ nd = .int .i64 x ∧ 0 ≤ x ∧ x < n ∧ m ≤ 39000 ∧ Hid (m = ws.length) ∧ Hid (wr.ownsRow W.heap.size 3 1 vo' m (intC (toI ws))) ∧ Hid (routeF es bl bn (gi (farL n es bl bn)) a = ws ++ routeF es bl bn (gi (farL n es bl bn)) x) ∧ Hid (Dn es bn pre x) ∧ Hid (Below W.heap.size W wr)) (fun _ nd _ => (gi (farL n es bl bn) (intOf nd)).toNat)
    case atStart => exact ⟨[], 0, a, _, rfl, rfl, a0, a1, by omega, rfl, World.ownsRow_nil _ _ _ _, rfl, HDN, Below.refl _ _⟩
    case round =>
      obtain ⟨ws, m, x, vo, rfl, rfl, xx0, xx1, hm, HM, HO, HR, HX, HBW⟩ := hrel
      obtain ⟨ao2, cap2, rfl⟩ := row_form HO.out
      clear x0 xa
      by_cases hx : x = (bn : Int)
      · subst hx
        have HFIN : Hid (Q (.returned (.tuple #[.slice ao2 m cap2, .int .i64 0])) (wr.putObj D (.deferred none))) := by
          show Q _ _
          rw [← HQ.out]
          have hg : wr.grownBy (wr.putObj D (.deferred none)) (some D) := grownBy_putObj' wr D _
          have hne : ∀ g, (Value.slice ao2 m cap2).ownBlock = some g → g ≠ D := fun g hgb e => by have := (HO.out.lt g hgb).1; omega
          have e : routeF es bl bn (gi (farL n es bl bn)) a = ws := by rw [HR.out, routeF_at, List.append_nil]
          rw [HRS.out, e]
          refine ⟨_, rfl, ?_, (HDW.out.trans (HBW.out.mono hwW)).trans (below_put wr _ (by omega))⟩
          have h1 := own_put (o := .deferred none) HO.out hne hwW
          rw [HM.out] at h1 ⊢
          simpa [toI] using h1
        have hK2 : wr.heap[D]? = some (.deferred (some [])) := (HBW.out.block D (Array.getElem?_eq_some_iff.1 hK).1).trans hK
        go_wp2_with fail
        refine ⟨by simp, .inl ⟨_, _, rfl, run_takeDeferred hK2, ?_⟩⟩
        refine ⟨.tuple #[.slice ao2 m cap2, .int .i64 0], ?_, HFIN.out⟩
        simp [results, Try.f12, go_sem]
      · obtain ⟨k, s1, s2, s3, s4, s5, s6, s7, s8⟩ := way_step (o := List.replicate 40 0) HEM.out hr HFAR.out (by simp) xx0 xx1 HX.out hx
        obtain ⟨xn, rfl⟩ : ∃ xn : Nat, x = (xn : Int) := ⟨x.toNat, by omega⟩
        rw [Int.toNat_natCast] at s1
        have hx40 : xn < 40 := by omega
        have hx2 : ((xn : Int) == (bn : Int)) = false := by simpa using hx
        obtain ⟨ea, ec2, he1, he2, he3⟩ := HE.out
        cases he1
        obtain ⟨eb, eof, rfl, lb, hcs⟩ := he3 (by omega)
        have HG1 := Lib.hid (hcs k s2).2.1
        have HI3 := Lib.hid (HBI.out wr HBW.out)
        have c1 := HI3.out.box.c1
        have co := HI3.out.row.cell (i := xn) (by rw [HI3.out.len]; exact hx40)
        rw [s1] at co
        have S3 : Hid (routeF es bl bn (gi (farL n es bl bn)) a = (ws ++ [k]) ++ routeF es bl bn (gi (farL n es bl bn)) (ate es k).2.1) := by
          show _ = _
          rw [HR.out, s3, List.append_assoc]
          rfl
        have hm2 : m + 1 ≤ 39000 := by
          have h1 := HRL.out
          rw [S3.out, List.length_append, List.length_append, ← HM.out] at h1
          simp at h1
          omega
        have S1 := Lib.hid s1
        have S4 := Lib.hid s4
        have S5 := Lib.hid s5
        have S8 := Lib.hid s8
        have hws := HBW.out.size
        clear he2 he3 hcs s1 s3 s4 s5 s8 hx
        obtain ⟨i0, hi0, hz0, hz1, hz2⟩ := info_parts int_info
        go_upto_region 16 with (at_builtin; (refine wpList_append_lies _ rfl _ _ 26 rfl W.heap.size 3 i0 _ 1 8 Try.underlying26 hi0 hz0 hz1 hz2 rfl (by omega) _ m (intC (toI ws)) rfl (HO.out.alloc _) ⟨wr.heap.size, 0, none⟩ 1 1 [.int .i64 k] rfl rfl (World.news_of_block (cs := #[.int .i64 k]) (t := 3) (fr := (0, 0)) (heap_alloc_new wr _)) (by simp [Value.oneCell']) (by omega) (by unfold maxLen; omega) (by omega) (by simp; omega) (wr.heap.size + 1) (by simp) ?_); intro g' cp w6 hown hgrow hat hlt4)
        have HB6 := Lib.hid (row_below HO.out hgrow HBW.out hws)
        have HO6 : Hid (w6.ownsRow W.heap.size 3 1 (.slice (some ⟨g', 0, none⟩) (m + 1) cp) (m + 1) (intC (toI (ws ++ [k])))) := by
          show World.ownsRow _ _ _ _ _ _ _
          rw [show intC (toI (ws ++ [k])) = intC (toI ws) ++ [.int .i64 k] by simp [intC, toI]]
          exact hown
        have HM6 : Hid (m + 1 = (ws ++ [k]).length) := by
          show _ = _
          rw [List.length_append, ← HM.out]
          rfl
        clear hown hgrow hat hlt4 c1 co
        have HI6 := Lib.hid (HBI.out w6 HB6.out)
        have c1 := HI6.out.box.c1
        have co := HI6.out.row.cell (i := xn) (by rw [HI6.out.len]; exact hx40)
        rw [S1.out] at co
        have g1 := (HI6.out.below.cell (p := ⟨eb, eof + k * 3 + 1, none⟩) lb).trans HG1.out
        go_quiet (fail)
        go_wp2_with fail
        go_roundw
        case rel => exact ⟨ws ++ [k], m + 1, _, _, rfl, rfl, s6, s7, hm2, HM6, HO6, S3, S8, ⟨HB6.out.os, HB6.out.tape, HB6.out.output, HB6.out.size, HB6.out.block⟩⟩
        case measure =>
          have h1 := S4.out
          have h2 := S5.out
          simp only [intOf]
          omega
theorem route_any {n : Int} {es : List Ed} {w : World} (v bv : Value) (hv : EdgesAt w v es) (bl : List Int) (hb : IntsAt w bv bl) (a b : Int) :
    Calls Try.prog 12 #[.agg #[.int .i64 n, v], bv, .int .i64 a, .int .i64 b] w (RetTwo (routeS n es bl a b) w) := by
  cases h : rightB n es && (nodeB n a && nodeB n b) with
  | false => rw [routeS_arg h]; exact route_no v bv hv bl a b h
  | true =>
    rw [Bool.and_eq_true, Bool.and_eq_true] at h
    exact route_yes v bv hv bl hb a b (rightB_iff.1 h.1) h.2.1 h.2.2
end Go.Proofs.Ythmblgfcjbiomaa.Rt
