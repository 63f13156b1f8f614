import Derived.Test.YtafmnoeljefpaaaRd9
import Derived.OpenShut
import Derived.JoinedCond
import Derived.JoinedOf
import Derived.SizedLaws
import Derived.Carry
import Derived.ChangeSlices
import Derived.ChangeSame
import Derived.Deep.DeepHandedRow
import Derived.Deep.Slices
import Derived.Lib.SmallJoins
import Derived.Test.YtafmnoeljefpaaaFt7
import Derived.Test.YtafmnoeljefpaaaFF
import Derived.Test.YtafmnoeljefpaaaRsz
/- What opens the arguments of this seat's laws, and what the rows' lists give. -/
set_option linter.unusedVariables false
set_option linter.unusedSimpArgs false
namespace Go.Proofs.Ytafmnoeljefpaaa.Js
open Go.ChangeShapes Go.WideShapes Go.ChangeAt Go.RowKit Lex

theorem cellsInts : Try.prog.cellsOf 24 = 1 := by kernel_rfl
/-- A slice's length is within its capacity. -/
def CapOk (v : Value) : Prop := ∀ a n c, v = .slice a n c → n ≤ c
/-- A slice of ints reads as a list. -/
theorem ints_at {H : Type} {enc : TypeId × Value → H} {W : World} {base fuel : Nat} {v : Value} {x : DataW H × List MemPlace}
    (hf : DataW.trod enc Try.prog W base (fun _ => true) true fuel 24 [v] = some x) : (∃ zs, Quo.IntsAt W v zs) ∧ CapOk v := by
  rcases open_ints Try.underlying24 Try.underlying3 cellsInt hf with ⟨hcs, hx⟩ | ⟨a, len, cap, zs, hcs, _, hl, hm, hz, hx, hcell, hwz⟩
  · simp at hcs
    subst hcs
    exact ⟨⟨[], .inl ⟨_, _, rfl, rfl⟩⟩, fun _ _ _ h => by cases h; exact Nat.le_refl _⟩
  · simp at hcs
    subst hcs
    refine ⟨?_, fun _ _ _ h => by cases h; exact hl⟩
    simp only [if_true] at hz
    by_cases hl0 : len = 0
    · subst hl0
      exact ⟨[], .inl ⟨_, _, rfl, rfl⟩⟩
    · obtain ⟨b, off, spot⟩ := a
      have hspot : spot = none := by simpa [Addr.add] using World.cell?_spot (hcell 0 (by omega))
      subst hspot
      have hlt : (zs.take len).length = len := by simp; omega
      have hg : ∀ j, j < len → (zs.take len).getD j 0 = zs.getD j 0 := fun j hj => by
        simp [List.getD, List.getElem?_take, hj]
      have hc0 := hcell 0 (by omega)
      rw [add_plain] at hc0
      refine ⟨zs.take len, .inr ⟨b, off, cap, by rw [hlt], by omega, by unfold maxLen at hm; omega, cell_lt hc0, fun j hj => ?_, fun j hj => ?_⟩⟩
      · rw [hlt] at hj
        rw [hg j hj, ← add_plain]
        exact hcell j (by omega)
      · rw [hlt] at hj
        rw [hg j hj]
        refine bounds_i64 (hwz _ ?_)
        rw [List.getD_eq_getElem?_getD, List.getElem?_eq_getElem (by omega : j < zs.length)]
        exact List.getElem_mem _
end Go.Proofs.Ytafmnoeljefpaaa.Js

/- What opens a raw value: a tree in memory, whose size the reading's bulk bounds. -/
set_option linter.unusedVariables false
set_option linter.unusedSimpArgs false
namespace Go.Proofs.Ytafmnoeljefpaaa.Js
open Go.ChangeShapes Go.WideShapes Go.ChangeAt Go.RowKit Lex

theorem cellsRaw : Try.prog.cellsOf 26 = 5 := by kernel_rfl
theorem cellsRaws : Try.prog.cellsOf 23 = 1 := by kernel_rfl

theorem trod_struct5 {H : Type} {enc : TypeId × Value → H} {P : Program} {w : World} {base : Nat} {spare : Nat → Bool} {held : Bool} {t : TypeId} {f0 f1 f2 f3 f4 : Field} {fuel : Nat} {cs : List Value} {x : DataW H × List MemPlace} (ht : P.underlying t = some (.struct #[f0, f1, f2, f3, f4])) (h : DataW.trod enc P w base spare held fuel t cs = some x) :
    ∃ y0 y1 y2 y3 y4 n, x.1 = .agg [y0.1, y1.1, y2.1, y3.1, y4.1] ∧ cs.length = P.cellsOf t ∧ DataW.trod enc P w base spare held n f0.type ((cs.drop f0.offset).take (P.cellsOf f0.type)) = some y0 ∧
      DataW.trod enc P w base spare held n f1.type ((cs.drop f1.offset).take (P.cellsOf f1.type)) = some y1 ∧ DataW.trod enc P w base spare held n f2.type ((cs.drop f2.offset).take (P.cellsOf f2.type)) = some y2 ∧
      DataW.trod enc P w base spare held n f3.type ((cs.drop f3.offset).take (P.cellsOf f3.type)) = some y3 ∧ DataW.trod enc P w base spare held n f4.type ((cs.drop f4.offset).take (P.cellsOf f4.type)) = some y4 := by
  obtain ⟨xs, n, _, rfl, hl, hlen, hf⟩ := DataW.trod_struct ht h
  match xs, hlen with
  | [y0, y1, y2, y3, y4], _ => exact ⟨y0, y1, y2, y3, y4, n, by simp, hl, by simpa using hf 0 f0 rfl, by simpa using hf 1 f1 rfl, by simpa using hf 2 f2 rfl, by simpa using hf 3 f3 rfl, by simpa using hf 4 f4 rfl⟩
theorem bulk_map {H : Type} (D : Nat → DataW H) : ∀ (l : List Nat) (i : Nat), i ∈ l → Rows.uptoBulk (D i) ≤ Rows.uptoBulkAll (l.map D)
  | [], i, h => by simp at h
  | x :: l, i, h => by
    rw [List.map_cons, Rows.uptoBulkAll]
    rcases List.mem_cons.1 h with rfl | h
    · omega
    · have := bulk_map D l i h; omega
theorem rszL_map {H : Type} (D : Nat → DataW H) (f : Nat → RT) : ∀ (l : List Nat), (∀ i ∈ l, rsz (f i) ≤ Rows.uptoBulk (D i)) → rszL (l.map f) ≤ Rows.uptoBulkAll (l.map D)
  | [], _ => by simp [rszL, Rows.uptoBulkAll]
  | x :: l, h => by
    rw [List.map_cons, List.map_cons, rszL, Rows.uptoBulkAll]
    have h1 := h x (List.mem_cons_self ..)
    have h2 := rszL_map D f l (fun i hi => h i (List.mem_cons_of_mem _ hi))
    omega
theorem txt_at {w : World} {v : Value} {zs : List Int} (h : Quo.IntsAt w v zs) (hc : CapOk v) : TxtAt w v zs := by
  refine ⟨h, ?_⟩
  rcases h with ⟨ao, cap, rfl, rfl⟩ | ⟨b, off, cap, rfl, h1, h2, h3, _⟩
  · exact ⟨ao, cap, rfl, by simp, by simp⟩
  · exact ⟨_, cap, rfl, hc _ _ _ rfl, h2⟩
theorem RAt.of_all {w : World} {k m e : Int} {vt : Value} {ai : Option Addr} {ci : Nat} {t : List Int} {is : List RT} (hk : i64B k) (hm : i64B m) (he : i64B e) (ht : TxtAt w vt t) (hl : is.length ≤ 9223372036854775807)
    (h : 0 < is.length → ∃ b off, ai = some ⟨b, off, none⟩ ∧ b < w.heap.size ∧ ∀ i, i < is.length → ∃ u, LiesAt w b (off + i * 5) u ∧ ∀ n, RAt w n u (is.getD i rt0)) :
    ∀ n, RAt w n (.agg #[.int .i64 k, .int .i64 m, .int .i64 e, vt, .slice ai is.length ci]) (.mk k m e t is)
  | 0 => ⟨vt, ai, ci, rfl, hk, hm, he, ht, hl⟩
  | n + 1 => ⟨vt, ai, ci, rfl, hk, hm, he, ht, hl, fun hp => by
    obtain ⟨b, off, e1, e2, e3⟩ := h hp
    exact ⟨b, off, e1, e2, fun i hi => by obtain ⟨u, q1, q2⟩ := e3 i hi; exact ⟨u, q1, q2 n⟩⟩⟩

set_option maxRecDepth 100000 in
set_option maxHeartbeats 1000000 in
theorem raw_trod {H : Type} {enc : TypeId × Value → H} {W : World} {base : Nat} : ∀ (N fuel : Nat) (cs : List Value) (x : DataW H × List MemPlace), Rows.uptoBulk x.1 ≤ N → DataW.trod enc Try.prog W base (fun _ => true) true fuel 26 cs = some x →
    ∃ r c0 c1 c2 c3 c4, cs = [c0, c1, c2, c3, c4] ∧ (∀ n, RAt W n (.agg #[c0, c1, c2, c3, c4]) r) ∧ rsz r ≤ Rows.uptoBulk x.1 := by
  intro N
  induction N with
  | zero =>
    intro fuel cs x hN h
    obtain ⟨y0, y1, y2, y3, y4, n', hx, _⟩ := trod_struct5 Try.underlying26 h
    rw [hx, Rows.uptoBulk] at hN
    omega
  | succ N ih =>
    intro fuel cs x hN h
    obtain ⟨y0, y1, y2, y3, y4, n', hx, hcl, t0, t1, t2, t3, t4⟩ := trod_struct5 Try.underlying26 h
    rw [cellsRaw] at hcl
    simp only [cellsInt, cellsInts, cellsRaws] at t0 t1 t2 t3 t4
    match cs, hcl with
    | [c0, c1, c2, c3, c4], _ =>
      obtain ⟨k, e0, -, w0⟩ := DataW.trod_int Try.underlying3 t0
      obtain ⟨m, e1, -, w1⟩ := DataW.trod_int Try.underlying3 t1
      obtain ⟨e, e2, -, w2⟩ := DataW.trod_int Try.underlying3 t2
      obtain ⟨⟨zs, hz⟩, hcap⟩ := ints_at t3
      simp at e0 e1 e2
      subst e0 e1 e2
      have ht := txt_at hz hcap
      rw [hx] at hN ⊢
      simp only [Rows.uptoBulk, Rows.uptoBulkAll] at hN ⊢
      rcases Deep.open_slice Try.underlying23 t4 with ⟨hcs, hx4⟩ | ⟨a, len, cap, mm, n2, D, Pl, hcs, hb, hl, hmx, hmm, hx4, hel⟩
      · simp at hcs
        subst hcs
        refine ⟨.mk k m e zs [], _, _, _, _, _, rfl, RAt.of_all (is := []) (i64B_of' w0) (i64B_of' w1) (i64B_of' w2) ht (Nat.zero_le _) (fun h => absurd h (Nat.lt_irrefl 0)), ?_⟩
        simp only [rsz, rszL]; omega
      · simp at hcs
        subst hcs
        simp only [if_true] at hmm
        subst hmm
        rw [hx4] at hN ⊢
        simp only [Rows.uptoBulk] at hN ⊢
        rw [cellsRaw] at hel
        have one : ∀ i, i < len → ∃ r : RT, (∃ u, (∀ q c, (aggC u)[q]? = some c → W.cell? (a.add (i * 5 + q)) = some c) ∧ (∃ c, W.cell? (a.add (i * 5)) = some c) ∧ ∀ n, RAt W n u r) ∧ rsz r ≤ Rows.uptoBulk (D i) := by
          intro i hi
          obtain ⟨cs', hc, ht'⟩ := hel i (by omega)
          obtain ⟨_, hcl', hcc⟩ := World.cells?_some hc
          have hbi := bulk_map D (List.range len) i (List.mem_range.2 hi)
          obtain ⟨r, d0, d1, d2, d3, d4, rfl, hr, hsz⟩ := ih _ _ _ (show Rows.uptoBulk (D i, Pl i).1 ≤ N by show Rows.uptoBulk (D i) ≤ N; omega) ht'
          refine ⟨r, ⟨_, fun q c hq => ?_, ?_, hr⟩, hsz⟩
          · have hq5 : q < 5 := by have := (List.getElem?_eq_some_iff.1 hq).1; simpa [aggC] using this
            have h0 := hcc q (by omega)
            rw [Deep.add_add] at h0
            rw [h0]
            have : [d0, d1, d2, d3, d4][q]? = some c := hq
            simpa using this
          · have h0 := hcc 0 (by omega)
            rw [Deep.add_add] at h0
            exact ⟨_, h0⟩
        haveI : Inhabited RT := ⟨rt0⟩
        obtain ⟨f, hf⟩ := Deep.choose_lt one
        have hlen : ((List.range len).map f).length = len := by simp
        have hget : ∀ j, j < len → ((List.range len).map f).getD j rt0 = f j := fun j hj => by
          rw [List.getD_eq_getElem?_getD, List.getElem?_map, List.getElem?_range hj]; rfl
        refine ⟨.mk k m e zs ((List.range len).map f), _, _, _, _, _, rfl, ?_, ?_⟩
        · have hall := RAt.of_all (w := W) (vt := c3) (t := zs) (ai := some a) (ci := mm) (is := (List.range len).map f) (i64B_of' w0) (i64B_of' w1) (i64B_of' w2) ht (by rw [hlen]; unfold maxLen at hmx; omega) (fun hp => by
            rw [hlen] at hp
            obtain ⟨b, off, spot⟩ := a
            obtain ⟨⟨u, _, ⟨c, hc0⟩, _⟩, _⟩ := hf 0 hp
            have hspot : spot = none := by simpa [Addr.add] using World.cell?_spot hc0
            subst hspot
            rw [add_plain] at hc0
            refine ⟨b, off, rfl, cell_lt hc0, fun i hi => ?_⟩
            rw [hlen] at hi
            rw [hget i hi]
            obtain ⟨⟨u, hu, _, hr⟩, _⟩ := hf i hi
            refine ⟨u, fun q c hq => ?_, hr⟩
            have := hu q c hq
            rw [add_plain] at this
            rw [Nat.add_assoc]
            exact this)
          rw [hlen] at hall
          exact hall
        · have := rszL_map D f (List.range len) (fun i hi => (hf i (List.mem_range.1 hi)).2)
          simp only [rsz]
          omega
set_option maxRecDepth 100000 in
theorem open_raw_at {H : Type} {enc : TypeId × Value → H} {W : World} {base : Nat} {v : Value} {d : DataW H} {p : List MemPlace}
    (hval : Value.okWide Try.prog W .any base 26 v) (h : DataW.Trod enc Try.prog W 0 (fun _ => true) true 26 v d p) : ∃ r, (∀ n, RAt W n v r) ∧ rsz r ≤ Rows.uptoBulk d := by
  obtain ⟨cs, rfl, hsz⟩ := okWide_struct Try.underlying26 hval
  obtain ⟨fuel, hf⟩ := h
  obtain ⟨r, c0, c1, c2, c3, c4, hcs, hr, hs⟩ := raw_trod _ fuel _ _ (Nat.le_refl _) hf
  simp only [Value.cells] at hcs
  obtain rfl : cs = #[c0, c1, c2, c3, c4] := Array.ext' hcs
  exact ⟨r, hr, hs⟩
end Go.Proofs.Ytafmnoeljefpaaa.Js
