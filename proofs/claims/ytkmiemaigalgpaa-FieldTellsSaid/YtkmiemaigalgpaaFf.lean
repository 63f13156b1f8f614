import Derived.Test.YtkmiemaigalgpaaFe
/- Layer 5: fields in memory; the contracts of has and of Check. -/
set_option linter.unusedVariables false
set_option linter.unusedSimpArgs false
namespace Go.Proofs.Ytkmiemaigalgpaa.Js
open Go.RowKit Lex

theorem makeFunc_run (fn : Fn) (first cap : Array Value) (w : World) : (Instr.makeFunc fn first cap).run Try.prog w = .ok (.func fn first cap) w := rfl
/-- A field, boxed. -/
def fdC (f : Fd) : Array Value := #[.string ⟨f.nm.toArray⟩, .int .i64 f.k, .int .i64 f.lo, .int .i64 f.hi, .bool f.fr]

set_option maxHeartbeats 4000000 in
set_option maxRecDepth 100000 in
theorem has1_any (S : Nat → Prop) (d : Nat) (v : Value) (j : J) (f : Fd) (bf : Nat) (w : World) (h : JAt S w d v j) (hf : w.heap[bf]? = some (.cells (fdC f) 50 (0, 0))) : Calls Try.prog 49 #[v, .pointer (some ⟨bf, 0, none⟩)] w (Ret (.tuple #[.bool (fitB j f), .bool true]) w) := by
  have FI := Lib.hid (fun (w' : World) (hb : Below w.heap.size w w') => fit5_any S d v j f w' (h.below hb (Nat.le_refl _)))
  generalize fitB j f = r at *
  obtain ⟨k, m, e, t, an, nn, cn, ai, ni, ci, rfl⟩ := jAt_form h
  obtain ⟨nm, fk, lo, hi, fr⟩ := f
  unfold fdC at hf
  unfold fdV at FI
  have hl := Own.block_lt hf
  have x1 : ∀ o, (w.alloc o).heap[bf]? = _ := fun o => (heap_alloc_old w o hl).trans hf
  obtain ⟨p0, p1, p2, p3, p4⟩ := fiveOf (x1 (.cells #[.int .i64 k, .int .i64 m, .int .i64 e, .string t, .slice an nn cn, .slice ai ni ci] 27))
  clear x1 hf h
  go_enter Try.func49, Try.ntmps49
  go_wp2_with (go_at_call 50; (with_reducible refine (FI.out _ (belowOne _ _)).mono ?_); rintro e1 w1 ⟨rfl, hb1⟩)
  go_ret2
  exact ⟨rfl, Dec.below_call hb1⟩

/-- What is told of a field. -/
def tellC (j : J) (f : Fd) : Bool × Bool := tellG false (fun x => (fitB x f, true)) j f.nm
theorem hasB_tell (j : J) (f : Fd) : hasB j f = ((tellC j f).1 || (!(tellC j f).2 && f.fr)) := by
  unfold hasB tellC tellG getS
  split <;> simp
set_option maxHeartbeats 4000000 in
set_option maxRecDepth 100000 in
theorem tellC_any (S : Nat → Prop) (d : Nat) (v : Value) (j : J) (f : Fd) (bf : Nat) (w : World) (h : JAt S w d v j) (hf : w.heap[bf]? = some (.cells (fdC f) 50 (0, 0))) : Calls Try.prog 37 #[v, .string ⟨f.nm.toArray⟩, .func (.func 49) #[] #[.pointer (some ⟨bf, 0, none⟩)]] w (Ret (.tuple #[.bool (tellC j f).1, .bool (tellC j f).2]) w) := by
  have PL := Lib.hid (fun (w' : World) (hb : Below w.heap.size w w') => place_any S d v j f.nm w' (h.below hb (Nat.le_refl _)))
  obtain ⟨P, hP⟩ : ∃ P, plc j f.nm = P := ⟨_, rfl⟩
  have hB := plc_B j f.nm P hP
  unfold tellC tellG
  rw [hP] at PL ⊢
  clear hP
  obtain ⟨k, m, e, t, ns, is⟩ := j
  obtain ⟨d', an, cn, ai, ci, hd', rfl, _, _, _, _, _, hn1, hn, hi1, hi, hit⟩ := h.open_
  have HIT : Hid (ItemsAt S w d' ai is) := hit
  have HF := Lib.hid hf
  have hlf := Own.block_lt hf
  clear hit h hf
  change -1 ≤ P ∧ P < is.length at hB
  obtain ⟨hB0, hB1⟩ := hB
  by_cases hn : P < 0
  · rw [if_pos hn]
    go_enter Try.func37, Try.ntmps37
    go_wp2_with (go_at_call 46; (with_reducible refine (PL.out _ (belowOne _ _)).mono ?_); rintro e1 w1 ⟨rfl, hb1⟩)
    go_ret2
    exact ⟨rfl, Dec.below_call hb1⟩
  · rw [if_neg hn]
    obtain ⟨b, off, c0, c1, c2, c3, c4, c5, rfl, hbl, hl, hJ⟩ := item_at HIT.out (by omega) hB1
    have IC := Lib.hid (fun (w' : World) (hb : Below w.heap.size w w') => has1_any S d' _ _ f bf w' (hJ.below hb (Nat.le_refl _)) ((hb.block _ hlf).trans HF.out))
    have HL := Lib.hid hl
    change Calls _ _ _ _ (Ret (.tuple #[.bool (fitB (is.getD P.toNat j0) f), .bool true]) w)
    generalize fitB (is.getD P.toNat j0) f = r at *
    clear hl hJ HIT
    go_enter Try.func37, Try.ntmps37
    go_wp2_with (first
      | (go_at_call 46; (with_reducible refine (PL.out _ (belowOne _ _)).mono ?_); rintro e1 w1 ⟨rfl, hb1⟩; have x1 := (hb1.block _ (by simp)).trans (heap_alloc_new w _); obtain ⟨y0, y1, y2, y3, y4, y5⟩ := six_of x1; have HBW := Lib.hid (Dec.below_call hb1); obtain ⟨z0, z1, z2, z3, z4, z5⟩ := (HL.out.keep (HBW.out.block b hbl)).six)
      | (go_at_call 49; (with_reducible refine (IC.out _ HBW.out).mono ?_); rintro e2 w2 ⟨rfl, hb2⟩))
    go_ret2
    exact ⟨rfl, HBW.out.trans (hb2.mono HBW.out.size)⟩

set_option maxHeartbeats 4000000 in
set_option maxRecDepth 100000 in
theorem has5_any (S : Nat → Prop) (d : Nat) (v : Value) (j : J) (f : Fd) (w : World) (h : JAt S w d v j) : Calls Try.prog 41 #[v, fdV f] w (Ret (.bool (hasB j f)) w) := by
  have hTC := fun (w' : World) (bf : Nat) (hb : Below w.heap.size w w') (hf : w'.heap[bf]? = some (.cells (fdC f) 50 (0, 0))) => tellC_any S d v j f bf w' (h.below hb (Nat.le_refl _)) hf
  rw [hasB_tell]
  generalize tellC j f = R at *
  obtain ⟨r1, r2⟩ := R
  have TC := Lib.hid hTC
  clear hTC
  obtain ⟨k, m, e, t, an, nn, cn, ai, ni, ci, rfl⟩ := jAt_form h
  clear h
  obtain ⟨nm, fk, lo, hi, fr⟩ := f
  unfold fdV fdC at *
  simp only at TC ⊢
  cases r1 with
  | true =>
    go_enter Try.func41, Try.ntmps41
    go_wp2_with (go_at_call 37; (with_reducible refine (TC.out _ _ (belowTwo _ _ _) (two_new _ _ _)).mono ?_); rintro e1 w1 ⟨rfl, hb1⟩)
    go_ret
    exact ⟨rfl, below_call2 hb1⟩
  | false =>
    cases r2 with
    | true =>
      go_enter Try.func41, Try.ntmps41
      go_wp2_with (go_at_call 37; (with_reducible refine (TC.out _ _ (belowTwo _ _ _) (two_new _ _ _)).mono ?_); rintro e1 w1 ⟨rfl, hb1⟩)
      go_ret
      exact ⟨rfl, below_call2 hb1⟩
    | false =>
      go_enter Try.func41, Try.ntmps41
      go_wp2_with (go_at_call 37; (with_reducible refine (TC.out _ _ (belowTwo _ _ _) (two_new _ _ _)).mono ?_); rintro e1 w1 ⟨rfl, hb1⟩; obtain ⟨x1, x2, x3, hbw⟩ := two_boxes' hb1; obtain ⟨p0, p1, p2, p3, p4⟩ := fiveOf x2)
      go_ret
      exact ⟨rfl, hbw⟩

/-- A slice that reads as a list of fields. -/
def FdsAt (w : World) (v : Value) (fs : List Fd) : Prop :=
  ∃ ao cap, v = .slice ao fs.length cap ∧ fs.length ≤ cap ∧ fs.length ≤ 140737488355328 ∧ (∀ f ∈ fs, f.good) ∧
    (0 < fs.length → ∃ b off, ao = some ⟨b, off, none⟩ ∧ b < w.heap.size ∧ ∀ i, i < fs.length → LiesAt w b (off + i * 5) (fdV (fs.getD i fd0)))
theorem FdsAt.below {w w' : World} {v : Value} {fs : List Fd} (h : FdsAt w v fs) (hb : Below w.heap.size w w') : FdsAt w' v fs := by
  obtain ⟨ao, cap, h1, h2, h3, h4, h5⟩ := h
  refine ⟨ao, cap, h1, h2, h3, h4, fun hp => ?_⟩
  obtain ⟨b, off, e1, e2, e3⟩ := h5 hp
  exact ⟨b, off, e1, Nat.lt_of_lt_of_le e2 hb.size, fun i hi => (e3 i hi).keep (hb.block b e2)⟩
theorem LiesAt.five {w : World} {b off : Nat} {c0 c1 c2 c3 c4 : Value} (h : LiesAt w b off (.agg #[c0, c1, c2, c3, c4])) :
    w.cell? ⟨b, off, none⟩ = some c0 ∧ w.cell? ⟨b, off + 1, none⟩ = some c1 ∧ w.cell? ⟨b, off + 2, none⟩ = some c2 ∧ w.cell? ⟨b, off + 3, none⟩ = some c3 ∧ w.cell? ⟨b, off + 4, none⟩ = some c4 :=
  ⟨h 0 c0 rfl, h 1 c1 rfl, h 2 c2 rfl, h 3 c3 rfl, h 4 c4 rfl⟩
/-- Between the rounds of Check. -/
structure KI (w : World) (X : Array Value) (wr : World) : Prop where
  bel : Below w.heap.size w wr
  box : wr.heap[w.heap.size]? = some (.cells X 27 (0, 0))
theorem KI.step {w : World} {X : Array Value} {wr w' : World} (h : KI w X wr) (hb : Below wr.heap.size wr w') : KI w X w' :=
  ⟨h.bel.trans (hb.mono h.bel.size), (hb.block _ (Own.block_lt h.box)).trans h.box⟩
end Go.Proofs.Ytkmiemaigalgpaa.Js
