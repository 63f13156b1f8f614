import Derived.Test.YtmlpefpjemiccaaGreatDoorCards
import Derived.Test.YtmlpefpjemiccaaGreatDoorTie
import Derived.Test.YtmlpefpjemiccaaGreatDoorLDeep
import Derived.OpenShut
import Derived.JoinedCond
import Derived.JoinedOf
import Derived.SizedLaws
import Derived.Carry
import Derived.ChangeSlices
import Derived.ChangeSame
import Derived.Deep.DeepHandedRow
import Derived.Deep.Slices
import Derived.Lib.SmallJoins
import Derived.Lib.LaidTab
import Derived.LaidSub
import Derived.Test.YtmlpefpjemiccaaGreatDoorFt7
import Derived.Test.YtmlpefpjemiccaaGreatDoorQq
/- What opens the arguments of this seat's laws, and what the rows' lists give. -/
set_option linter.unusedVariables false
set_option linter.unusedSimpArgs false
namespace Go.Proofs.YtmlpefpjemiccaaGreatDoor.Js
open Go.ChangeShapes Go.WideShapes Go.ChangeAt Go.RowKit Lex

theorem own : ownKnob Tryz.prog.godebug = none := by kernel_rfl
theorem laidOut : laidOutB Tryz.prog = true := by kernel_rfl
theorem cellsInt : Tryz.prog.cellsOf 3 = 1 := by kernel_rfl
theorem cellsInts : Tryz.prog.cellsOf 28 = 1 := by kernel_rfl
/-- A slice's length is within its capacity. -/
def CapOk (v : Value) : Prop := ∀ a n c, v = .slice a n c → n ≤ c
theorem gpowType : (Tryz.prog.globals[1]?).map (·.type) = some 158 := by kernel_rfl
theorem cellsPow : Tryz.prog.cellsOf 158 = 20 := by kernel_rfl
theorem cellsU64 : Tryz.prog.cellsOf 129 = 1 := by kernel_rfl

theorem cell_lt {w : World} {b o : Nat} {v : Value} (h : w.cell? ⟨b, o, none⟩ = some v) : b < w.heap.size := by
  rcases Nat.lt_or_ge b w.heap.size with h' | h'
  · exact h'
  · simp [World.cell?, Array.getElem?_eq_none h'] at h
theorem add_plain (b off j : Nat) : (⟨b, off, none⟩ : Addr).add j = ⟨b, off + j, none⟩ := by
  simp only [Addr.add]; split <;> simp_all

/-- A slice of ints reads as a list. -/
theorem ints_at {H : Type} {enc : TypeId × Value → H} {W : World} {base fuel : Nat} {v : Value} {x : DataW H × List MemPlace}
    (hf : DataW.trod enc Tryz.prog W base (fun _ => true) true fuel 28 [v] = some x) : (∃ zs, Quo.IntsAt W v zs) ∧ CapOk v := by
  rcases open_ints Tryz.underlying28 Tryz.underlying3 cellsInt hf with ⟨hcs, hx⟩ | ⟨a, len, cap, zs, hcs, _, hl, hm, hz, hx, hcell, hwz⟩
  · simp at hcs
    subst hcs
    exact ⟨⟨[], .inl ⟨_, _, rfl, rfl⟩⟩, fun _ _ _ h => by cases h; exact Nat.le_refl _⟩
  · simp at hcs
    subst hcs
    refine ⟨?_, fun _ _ _ h => by cases h; exact hl⟩
    simp only [if_true] at hz
    by_cases hl0 : len = 0
    · subst hl0
      exact ⟨[], .inl ⟨_, _, rfl, rfl⟩⟩
    · obtain ⟨b, off, spot⟩ := a
      have hspot : spot = none := by simpa [Addr.add] using World.cell?_spot (hcell 0 (by omega))
      subst hspot
      have hlt : (zs.take len).length = len := by simp; omega
      have hg : ∀ j, j < len → (zs.take len).getD j 0 = zs.getD j 0 := fun j hj => by
        simp [List.getD, List.getElem?_take, hj]
      have hc0 := hcell 0 (by omega)
      rw [add_plain] at hc0
      refine ⟨zs.take len, .inr ⟨b, off, cap, by rw [hlt], by omega, by unfold maxLen at hm; omega, cell_lt hc0, fun j hj => ?_, fun j hj => ?_⟩⟩
      · rw [hlt] at hj
        rw [hg j hj, ← add_plain]
        exact hcell j (by omega)
      · rw [hlt] at hj
        rw [hg j hj]
        refine bounds_i64 (hwz _ ?_)
        rw [List.getD_eq_getElem?_getD, List.getElem?_eq_getElem (by omega : j < zs.length)]
        exact List.getElem_mem _
set_option maxRecDepth 100000 in
theorem open_ints_at {H : Type} {enc : TypeId × Value → H} {W : World} {base : Nat} {v : Value} {d : DataW H} {p : List MemPlace}
    (hval : Value.okWide Tryz.prog W .any base 28 v) (h : DataW.Trod enc Tryz.prog W 0 (fun _ => true) true 28 v d p) : ∃ zs, Quo.IntsAt W v zs := by
  obtain ⟨a0, len, cap, rfl⟩ := okWide_slice Tryz.underlying28 hval
  obtain ⟨fuel, hf⟩ := h
  exact (ints_at (by simpa [Value.cells] using hf)).1

theorem i64B_of' {n : Int} (h : (Lit.int .i64 n).wf = true) : i64B n := bounds_i64 h

/-- The rows' lists. -/
def laid5 : List (String × DataW Unit) := [("math/bits.deBruijn32tab", Rows.laid_math_bits_deBruijn32tab), ("math/bits.deBruijn64tab", Rows.laid_math_bits_deBruijn64tab), ("internal/strconv.uint64pow10", Rows.laid_internal_strconv_uint64pow10), ("unicode/utf8.acceptRanges", Rows.laid_unicode_utf8_acceptRanges), ("unicode/utf8.first", Rows.laid_unicode_utf8_first)]
theorem tab_of_laid {W : World} (h : laidMetH Tryz.prog laid5 W) : Dec.Tab W := by
  have h2 := h.filter (fun x => x.1 == "internal/strconv.uint64pow10")
  have h3 : laidMetH Tryz.prog [("internal/strconv.uint64pow10", Lib.tabData .u64 Lib.pow10Tab)] W := h2
  exact Lib.tabIs_of_head (rest := []) Dec.gpow gpowType Tryz.underlying158 Tryz.underlying129 cellsU64 cellsPow h3

/-- A table's cells. -/
def flat1 : List (DataW Unit) → List Value
  | [] => []
  | .lit (.int k z) :: r => .int k z :: flat1 r
  | _ :: r => flat1 r
def flat2 : List (DataW Unit) → List Value
  | [] => []
  | .lit (.int k z) :: r => .int k z :: flat2 r
  | .agg l :: r => flat1 l ++ flat2 r
  | _ :: r => flat2 r
def flat : DataW Unit → Array Value
  | .agg l => (flat2 l).toArray
  | _ => #[]
def put (vs : Array Value) : Obj → Obj
  | .cells _ t f => .cells vs t f
  | o => o

noncomputable def laidWorld (os : Os) : World :=
  { World.holding Tryz.prog os ⟨#[], #[], []⟩ with heap := (((((World.holding Tryz.prog os ⟨#[], #[], []⟩).heap.modify 1 (put (flat Rows.laid_internal_strconv_uint64pow10))).modify 4 (put (flat Rows.laid_unicode_utf8_first))).modify 5 (put (flat Rows.laid_unicode_utf8_acceptRanges))).modify 2 (put (flat Rows.laid_math_bits_deBruijn32tab))).modify 3 (put (flat Rows.laid_math_bits_deBruijn64tab)) }
theorem laid_met (os : Os) (args : Array Value) : laidMet Tryz.prog laid5 ((laidWorld os).forCall (fun _ _ => 0) ⟨#[], args, []⟩).memory :=
  laidMet_of_run' 8 (by kernel_rfl) (by kernel_rfl)
end Go.Proofs.YtmlpefpjemiccaaGreatDoor.Js

/- What opens a raw value: a tree in memory, whose size the reading's bulk bounds. -/
set_option linter.unusedVariables false
set_option linter.unusedSimpArgs false
namespace Go.Proofs.YtmlpefpjemiccaaGreatDoor.Js
open Go.ChangeShapes Go.WideShapes Go.ChangeAt Go.RowKit Lex

theorem cellsRaw : Tryz.prog.cellsOf 31 = 5 := by kernel_rfl
theorem cellsRaws : Tryz.prog.cellsOf 29 = 1 := by kernel_rfl

theorem trod_struct5 {H : Type} {enc : TypeId × Value → H} {P : Program} {w : World} {base : Nat} {spare : Nat → Bool} {held : Bool} {t : TypeId} {f0 f1 f2 f3 f4 : Field} {fuel : Nat} {cs : List Value} {x : DataW H × List MemPlace} (ht : P.underlying t = some (.struct #[f0, f1, f2, f3, f4])) (h : DataW.trod enc P w base spare held fuel t cs = some x) :
    ∃ y0 y1 y2 y3 y4 n, x.1 = .agg [y0.1, y1.1, y2.1, y3.1, y4.1] ∧ cs.length = P.cellsOf t ∧ DataW.trod enc P w base spare held n f0.type ((cs.drop f0.offset).take (P.cellsOf f0.type)) = some y0 ∧
      DataW.trod enc P w base spare held n f1.type ((cs.drop f1.offset).take (P.cellsOf f1.type)) = some y1 ∧ DataW.trod enc P w base spare held n f2.type ((cs.drop f2.offset).take (P.cellsOf f2.type)) = some y2 ∧
      DataW.trod enc P w base spare held n f3.type ((cs.drop f3.offset).take (P.cellsOf f3.type)) = some y3 ∧ DataW.trod enc P w base spare held n f4.type ((cs.drop f4.offset).take (P.cellsOf f4.type)) = some y4 := by
  obtain ⟨xs, n, _, rfl, hl, hlen, hf⟩ := DataW.trod_struct ht h
  match xs, hlen with
  | [y0, y1, y2, y3, y4], _ => exact ⟨y0, y1, y2, y3, y4, n, by simp, hl, by simpa using hf 0 f0 rfl, by simpa using hf 1 f1 rfl, by simpa using hf 2 f2 rfl, by simpa using hf 3 f3 rfl, by simpa using hf 4 f4 rfl⟩
theorem bulk_map {H : Type} (D : Nat → DataW H) : ∀ (l : List Nat) (i : Nat), i ∈ l → Rows.uptoBulk (D i) ≤ Rows.uptoBulkAll (l.map D)
  | [], i, h => by simp at h
  | x :: l, i, h => by
    rw [List.map_cons, Rows.uptoBulkAll]
    rcases List.mem_cons.1 h with rfl | h
    · omega
    · have := bulk_map D l i h; omega
theorem rszL_map {H : Type} (D : Nat → DataW H) (f : Nat → RT) : ∀ (l : List Nat), (∀ i ∈ l, rsz (f i) ≤ Rows.uptoBulk (D i)) → rszL (l.map f) ≤ Rows.uptoBulkAll (l.map D)
  | [], _ => by simp [rszL, Rows.uptoBulkAll]
  | x :: l, h => by
    rw [List.map_cons, List.map_cons, rszL, Rows.uptoBulkAll]
    have h1 := h x (List.mem_cons_self ..)
    have h2 := rszL_map D f l (fun i hi => h i (List.mem_cons_of_mem _ hi))
    omega
theorem txt_at {w : World} {v : Value} {zs : List Int} (h : Quo.IntsAt w v zs) (hc : CapOk v) : TxtAt w v zs := by
  refine ⟨h, ?_⟩
  rcases h with ⟨ao, cap, rfl, rfl⟩ | ⟨b, off, cap, rfl, h1, h2, h3, _⟩
  · exact ⟨ao, cap, rfl, by simp, by simp⟩
  · exact ⟨_, cap, rfl, hc _ _ _ rfl, h2⟩
theorem RAt.of_all {w : World} {k m e : Int} {vt : Value} {ai : Option Addr} {ci : Nat} {t : List Int} {is : List RT} (hk : i64B k) (hm : i64B m) (he : i64B e) (ht : TxtAt w vt t) (hl : is.length ≤ 9223372036854775807)
    (h : 0 < is.length → ∃ b off, ai = some ⟨b, off, none⟩ ∧ b < w.heap.size ∧ ∀ i, i < is.length → ∃ u, LiesAt w b (off + i * 5) u ∧ ∀ n, RAt w n u (is.getD i rt0)) :
    ∀ n, RAt w n (.agg #[.int .i64 k, .int .i64 m, .int .i64 e, vt, .slice ai is.length ci]) (.mk k m e t is)
  | 0 => ⟨vt, ai, ci, rfl, hk, hm, he, ht, hl⟩
  | n + 1 => ⟨vt, ai, ci, rfl, hk, hm, he, ht, hl, fun hp => by
    obtain ⟨b, off, e1, e2, e3⟩ := h hp
    exact ⟨b, off, e1, e2, fun i hi => by obtain ⟨u, q1, q2⟩ := e3 i hi; exact ⟨u, q1, q2 n⟩⟩⟩

set_option maxRecDepth 100000 in
set_option maxHeartbeats 1000000 in
theorem raw_trod {H : Type} {enc : TypeId × Value → H} {W : World} {base : Nat} : ∀ (N fuel : Nat) (cs : List Value) (x : DataW H × List MemPlace), Rows.uptoBulk x.1 ≤ N → DataW.trod enc Tryz.prog W base (fun _ => true) true fuel 31 cs = some x →
    ∃ r c0 c1 c2 c3 c4, cs = [c0, c1, c2, c3, c4] ∧ (∀ n, RAt W n (.agg #[c0, c1, c2, c3, c4]) r) ∧ rsz r ≤ Rows.uptoBulk x.1 := by
  intro N
  induction N with
  | zero =>
    intro fuel cs x hN h
    obtain ⟨y0, y1, y2, y3, y4, n', hx, _⟩ := trod_struct5 Tryz.underlying31 h
    rw [hx, Rows.uptoBulk] at hN
    omega
  | succ N ih =>
    intro fuel cs x hN h
    obtain ⟨y0, y1, y2, y3, y4, n', hx, hcl, t0, t1, t2, t3, t4⟩ := trod_struct5 Tryz.underlying31 h
    rw [cellsRaw] at hcl
    simp only [cellsInt, cellsInts, cellsRaws] at t0 t1 t2 t3 t4
    match cs, hcl with
    | [c0, c1, c2, c3, c4], _ =>
      obtain ⟨k, e0, -, w0⟩ := DataW.trod_int Tryz.underlying3 t0
      obtain ⟨m, e1, -, w1⟩ := DataW.trod_int Tryz.underlying3 t1
      obtain ⟨e, e2, -, w2⟩ := DataW.trod_int Tryz.underlying3 t2
      obtain ⟨⟨zs, hz⟩, hcap⟩ := ints_at t3
      simp at e0 e1 e2
      subst e0 e1 e2
      have ht := txt_at hz hcap
      rw [hx] at hN ⊢
      simp only [Rows.uptoBulk, Rows.uptoBulkAll] at hN ⊢
      rcases Deep.open_slice Tryz.underlying29 t4 with ⟨hcs, hx4⟩ | ⟨a, len, cap, mm, n2, D, Pl, hcs, hb, hl, hmx, hmm, hx4, hel⟩
      · simp at hcs
        subst hcs
        refine ⟨.mk k m e zs [], _, _, _, _, _, rfl, RAt.of_all (is := []) (i64B_of' w0) (i64B_of' w1) (i64B_of' w2) ht (Nat.zero_le _) (fun h => absurd h (Nat.lt_irrefl 0)), ?_⟩
        simp only [rsz, rszL]; omega
      · simp at hcs
        subst hcs
        simp only [if_true] at hmm
        subst hmm
        rw [hx4] at hN ⊢
        simp only [Rows.uptoBulk] at hN ⊢
        rw [cellsRaw] at hel
        have one : ∀ i, i < len → ∃ r : RT, (∃ u, (∀ q c, (aggC u)[q]? = some c → W.cell? (a.add (i * 5 + q)) = some c) ∧ (∃ c, W.cell? (a.add (i * 5)) = some c) ∧ ∀ n, RAt W n u r) ∧ rsz r ≤ Rows.uptoBulk (D i) := by
          intro i hi
          obtain ⟨cs', hc, ht'⟩ := hel i (by omega)
          obtain ⟨_, hcl', hcc⟩ := World.cells?_some hc
          have hbi := bulk_map D (List.range len) i (List.mem_range.2 hi)
          obtain ⟨r, d0, d1, d2, d3, d4, rfl, hr, hsz⟩ := ih _ _ _ (show Rows.uptoBulk (D i, Pl i).1 ≤ N by show Rows.uptoBulk (D i) ≤ N; omega) ht'
          refine ⟨r, ⟨_, fun q c hq => ?_, ?_, hr⟩, hsz⟩
          · have hq5 : q < 5 := by have := (List.getElem?_eq_some_iff.1 hq).1; simpa [aggC] using this
            have h0 := hcc q (by omega)
            rw [Deep.add_add] at h0
            rw [h0]
            have : [d0, d1, d2, d3, d4][q]? = some c := hq
            simpa using this
          · have h0 := hcc 0 (by omega)
            rw [Deep.add_add] at h0
            exact ⟨_, h0⟩
        haveI : Inhabited RT := ⟨rt0⟩
        obtain ⟨f, hf⟩ := Deep.choose_lt one
        have hlen : ((List.range len).map f).length = len := by simp
        have hget : ∀ j, j < len → ((List.range len).map f).getD j rt0 = f j := fun j hj => by
          rw [List.getD_eq_getElem?_getD, List.getElem?_map, List.getElem?_range hj]; rfl
        refine ⟨.mk k m e zs ((List.range len).map f), _, _, _, _, _, rfl, ?_, ?_⟩
        · have hall := RAt.of_all (w := W) (vt := c3) (t := zs) (ai := some a) (ci := mm) (is := (List.range len).map f) (i64B_of' w0) (i64B_of' w1) (i64B_of' w2) ht (by rw [hlen]; unfold maxLen at hmx; omega) (fun hp => by
            rw [hlen] at hp
            obtain ⟨b, off, spot⟩ := a
            obtain ⟨⟨u, _, ⟨c, hc0⟩, _⟩, _⟩ := hf 0 hp
            have hspot : spot = none := by simpa [Addr.add] using World.cell?_spot hc0
            subst hspot
            rw [add_plain] at hc0
            refine ⟨b, off, rfl, cell_lt hc0, fun i hi => ?_⟩
            rw [hlen] at hi
            rw [hget i hi]
            obtain ⟨⟨u, hu, _, hr⟩, _⟩ := hf i hi
            refine ⟨u, fun q c hq => ?_, hr⟩
            have := hu q c hq
            rw [add_plain] at this
            rw [Nat.add_assoc]
            exact this)
          rw [hlen] at hall
          exact hall
        · have := rszL_map D f (List.range len) (fun i hi => (hf i (List.mem_range.1 hi)).2)
          simp only [rsz]
          omega
set_option maxRecDepth 100000 in
theorem open_raw_at {H : Type} {enc : TypeId × Value → H} {W : World} {base : Nat} {v : Value} {d : DataW H} {p : List MemPlace}
    (hval : Value.okWide Tryz.prog W .any base 31 v) (h : DataW.Trod enc Tryz.prog W 0 (fun _ => true) true 31 v d p) : ∃ r, (∀ n, RAt W n v r) ∧ rsz r ≤ Rows.uptoBulk d := by
  obtain ⟨cs, rfl, hsz⟩ := okWide_struct Tryz.underlying31 hval
  obtain ⟨fuel, hf⟩ := h
  obtain ⟨r, c0, c1, c2, c3, c4, hcs, hr, hs⟩ := raw_trod _ fuel _ _ (Nat.le_refl _) hf
  simp only [Value.cells] at hcs
  obtain rfl : cs = #[c0, c1, c2, c3, c4] := Array.ext' hcs
  exact ⟨r, hr, hs⟩
set_option maxRecDepth 100000 in
theorem open_txt_at {H : Type} {enc : TypeId × Value → H} {W : World} {base : Nat} {v : Value} {d : DataW H} {p : List MemPlace}
    (hval : Value.okWide Tryz.prog W .any base 28 v) (h : DataW.Trod enc Tryz.prog W 0 (fun _ => true) true 28 v d p) : ∃ zs, TxtAt W v zs := by
  obtain ⟨a0, len, cap, rfl⟩ := okWide_slice Tryz.underlying28 hval
  obtain ⟨fuel, hf⟩ := h
  obtain ⟨⟨zs, h1⟩, h2⟩ := ints_at (by simpa [Value.cells] using hf)
  exact ⟨zs, txt_at h1 h2⟩
end Go.Proofs.YtmlpefpjemiccaaGreatDoor.Js

/- What opens a JSON value among the arguments: a tree in memory, whose size the reading's bulk bounds. -/

set_option linter.unusedVariables false
set_option linter.unusedSimpArgs false
namespace Go.Proofs.YtmlpefpjemiccaaGreatDoor.Js
open Go.ChangeShapes Go.WideShapes Go.ChangeAt Go.RowKit Lex

def nsz : List (List UInt8) → Nat
  | [] => 0
  | n :: r => n.length + 1 + nsz r
mutual
/-- How great a value is. -/
def jsz : J → Nat
  | .mk _ _ _ t ns is => 8 + t.length + nsz ns + jszL is
def jszL : List J → Nat
  | [] => 0
  | x :: r => jsz x + jszL r
end
theorem nsz_mem : ∀ {ns : List (List UInt8)} {n : List UInt8}, n ∈ ns → n.length ≤ nsz ns
  | [], _, h => by simp at h
  | x :: r, n, h => by
    rw [nsz]
    rcases List.mem_cons.1 h with rfl | h
    · omega
    · have := nsz_mem h; omega
theorem nsz_len : ∀ (ns : List (List UInt8)), ns.length ≤ nsz ns
  | [] => by simp [nsz]
  | x :: r => by rw [nsz, List.length_cons]; have := nsz_len r; omega
theorem jszL_len : ∀ (is : List J), is.length ≤ jszL is
  | [] => by simp [jszL]
  | .mk k m e t ns is :: r => by rw [jszL, jsz, List.length_cons]; have := jszL_len r; omega
mutual
theorem tb_of : ∀ (j : J), jsz j ≤ 10000000 → tbJ j
  | .mk k m e t ns is, h => by
    rw [jsz] at h
    rw [tbJ]
    exact ⟨by omega, fun n hn => by have := nsz_mem hn; omega, tbL_of is (by omega)⟩
theorem tbL_of : ∀ (is : List J), jszL is ≤ 10000000 → tbL is
  | [], _ => by rw [tbL]; trivial
  | x :: r, h => by
    rw [jszL] at h
    rw [tbL]
    exact ⟨tb_of x (by omega), tbL_of r (by omega)⟩
end
mutual
theorem print_jsz : ∀ (j : J) (dep : Nat), rightJ dep j = true → (printJ j).length + 1 ≤ 6 * jsz j
  | .mk k m e t ns is, dep, h => by
    rw [rightJ] at h
    simp only [Bool.and_eq_true] at h
    obtain ⟨_, hb, hf, hr⟩ := h
    rw [printJ, jsz]
    unfold formB at hf
    split
    · simp [nullL]; omega
    · split
      · simp [falseL]; omega
      · split
        · simp [trueL]; omega
        · rename_i h1 h2 h3
          split
          · rename_i h4
            rw [if_neg (by omega), if_pos h4] at hf
            have := (Dec.print_len hf).1
            omega
          · rename_i h4
            split
            · rename_i h5
              rw [if_neg (by omega), if_neg h4, if_pos h5] at hf
              have := quote_len6 hf
              omega
            · rename_i h5
              split
              · have := printL_jsz is false true [] (dep + 1) hr (fun n hn => by simp at hn) (fun h => by cases h)
                simp only [List.length_cons, List.length_append, List.length_nil]
                simp only [nsz] at this
                omega
              · rename_i h6
                split
                · rename_i h7
                  rw [if_neg (by omega), if_neg h4, if_neg h5, if_pos h7, Bool.and_eq_true] at hf
                  have := printL_jsz is true true ns (dep + 1) hr (names_whole hf.2) (fun _ => by simpa using hf.1)
                  simp only [List.length_cons, List.length_append, List.length_nil]
                  omega
                · simp only [List.length_nil]; omega
theorem printL_jsz : ∀ (is : List J) (o f : Bool) (ns : List (List UInt8)) (dep : Nat), rightL dep is = true → (∀ n ∈ ns, Quo.wholeB n = true) → (o = true → ns.length = is.length) → (printL o f ns is).length ≤ 6 * (nsz ns + jszL is)
  | [], o, f, ns, dep, h, hw, ho => by simp [printL]
  | x :: r, o, f, ns, dep, h, hw, ho => by
    rw [rightL, Bool.and_eq_true] at h
    have h1 := print_jsz x dep h.1
    rw [printL, jszL]
    cases o with
    | false =>
      have h2 := printL_jsz r false false ns.tail dep h.2 (fun n hn => hw n (List.mem_of_mem_tail hn)) (fun h => by cases h)
      have h3 : nsz ns.tail ≤ nsz ns := by cases ns with
        | nil => simp
        | cons n ns => simp only [List.tail_cons, nsz]; omega
      simp only [List.length_append, Bool.false_eq_true, if_false, List.length_nil]
      cases f <;> simp <;> omega
    | true =>
      have hl := ho rfl
      cases ns with
      | nil => simp at hl
      | cons n ns =>
        have h2 := printL_jsz r true false ns dep h.2 (fun y hy => hw y (List.mem_cons_of_mem _ hy)) (fun _ => by simpa using hl)
        have h3 := quote_len6 (hw n (List.mem_cons_self ..))
        simp only [List.tail_cons, List.headD_cons, List.length_append, List.length_cons]
        rw [nsz]
        cases f <;> simp <;> omega
end
theorem cellsStrJ : Tryz.prog.cellsOf 9 = 1 := by kernel_rfl
theorem cellsJson : Tryz.prog.cellsOf 27 = 6 := by kernel_rfl
theorem cellsJsons : Tryz.prog.cellsOf 25 = 1 := by kernel_rfl
theorem cellsStrs : Tryz.prog.cellsOf 24 = 1 := by kernel_rfl
theorem cellsDec : Tryz.prog.cellsOf 23 = 2 := by kernel_rfl
theorem trod_struct2J {H : Type} {enc : TypeId × Value → H} {P : Program} {w : World} {base : Nat} {spare : Nat → Bool} {held : Bool} {t : TypeId} {f0 f1 : Field} {fuel : Nat} {cs : List Value} {x : DataW H × List MemPlace} (ht : P.underlying t = some (.struct #[f0, f1])) (h : DataW.trod enc P w base spare held fuel t cs = some x) :
    ∃ y0 y1 n, x.1 = .agg [y0.1, y1.1] ∧ cs.length = P.cellsOf t ∧ DataW.trod enc P w base spare held n f0.type ((cs.drop f0.offset).take (P.cellsOf f0.type)) = some y0 ∧
      DataW.trod enc P w base spare held n f1.type ((cs.drop f1.offset).take (P.cellsOf f1.type)) = some y1 := by
  obtain ⟨xs, n, _, rfl, hl, hlen, hf⟩ := DataW.trod_struct ht h
  match xs, hlen with
  | [y0, y1], _ => exact ⟨y0, y1, n, by simp, hl, by simpa using hf 0 f0 rfl, by simpa using hf 1 f1 rfl⟩
theorem nsz_map {H : Type} (D : Nat → DataW H) (f : Nat → List UInt8) : ∀ (l : List Nat), (∀ i ∈ l, (f i).length + 1 ≤ Rows.uptoBulk (D i)) → nsz (l.map f) ≤ Rows.uptoBulkAll (l.map D)
  | [], _ => by simp [nsz, Rows.uptoBulkAll]
  | x :: l, h => by
    rw [List.map_cons, List.map_cons, nsz, Rows.uptoBulkAll]
    have h1 := h x (List.mem_cons_self ..)
    have h2 := nsz_map D f l (fun i hi => h i (List.mem_cons_of_mem _ hi))
    omega
theorem jszL_map {H : Type} (D : Nat → DataW H) (f : Nat → J) : ∀ (l : List Nat), (∀ i ∈ l, jsz (f i) ≤ Rows.uptoBulk (D i)) → jszL (l.map f) ≤ Rows.uptoBulkAll (l.map D)
  | [], _ => by simp [jszL, Rows.uptoBulkAll]
  | x :: l, h => by
    rw [List.map_cons, List.map_cons, jszL, Rows.uptoBulkAll]
    have h1 := h x (List.mem_cons_self ..)
    have h2 := jszL_map D f l (fun i hi => h i (List.mem_cons_of_mem _ hi))
    omega

set_option maxRecDepth 100000 in
theorem strs_trod {H : Type} {enc : TypeId × Value → H} {W : World} {base fuel : Nat} {c : Value} {x : DataW H × List MemPlace}
    (hf : DataW.trod enc Tryz.prog W base (fun _ => true) true fuel 24 [c] = some x) (hw : Rows.uptoBulk x.1 ≤ 1048576) : ∃ ns, StrsAt Any W c ns ∧ nsz ns + 1 ≤ Rows.uptoBulk x.1 := by
  rcases Deep.open_slice1 Tryz.underlying24 cellsStrJ hf with ⟨hcs, hx⟩ | ⟨a, len, m, mm, n, V, D, Pl, hcs, hb, hl, hmx, hm, hx, hel⟩
  · simp at hcs
    subst hcs
    rw [hx]
    exact ⟨[], ⟨none, 0, rfl, by simp, by simp, fun x hx => by simp at hx, fun h => by simp at h⟩, by simp [nsz, Rows.uptoBulk]⟩
  · simp at hcs
    subst hcs
    simp only [if_true] at hm
    subst hm
    have hd : x.1 = .slice ((List.range len).map D) ((List.range (mm - len)).map fun j => D (len + j)) := congrArg Prod.fst hx
    rw [hd] at hw ⊢
    simp only [Rows.uptoBulk] at hw ⊢
    by_cases hl0 : len = 0
    · subst hl0
      exact ⟨[], ⟨_, _, rfl, by simp, by simp, fun x hx => by simp at hx, fun h => by simp at h⟩, by simp [nsz]⟩
    · have one : ∀ i, i < len → ∃ t : List UInt8, W.cell? (a.add i) = some (strW t) ∧ t.length + 1 ≤ Rows.uptoBulk (D i) := by
        intro i hi
        obtain ⟨hc, ht⟩ := hel i (by omega)
        obtain ⟨s, e0, hy0, hs⟩ := DataW.trod_string Tryz.underlying9 ht
        have hDi : D i = .lit (.string s.data.toList) := congrArg Prod.fst hy0
        simp at e0
        exact ⟨s.data.toList, by rw [hc, e0]; rfl, by rw [hDi, Rows.uptoBulk]; exact Nat.le_refl _⟩
      haveI : Inhabited (List UInt8) := ⟨[]⟩
      obtain ⟨f, hf⟩ := Deep.choose_lt one
      have hlen : ((List.range len).map f).length = len := by simp
      have hget : ∀ j, j < len → ((List.range len).map f).getD j [] = f j := fun j hj => by
        rw [List.getD_eq_getElem?_getD, List.getElem?_map, List.getElem?_range hj]; rfl
      have hnz := nsz_map D f (List.range len) (fun i hi => (hf i (List.mem_range.1 hi)).2)
      have hnl := nsz_len ((List.range len).map f)
      rw [hlen] at hnl
      obtain ⟨b, off, spot⟩ := a
      have hc0 := (hf 0 (by omega)).1
      have hspot : spot = none := by simpa [Addr.add] using World.cell?_spot hc0
      subst hspot
      rw [add_plain] at hc0
      refine ⟨(List.range len).map f, ⟨_, _, by rw [hlen], by omega, by omega, fun x hx => ?_, fun _ => ⟨b, off, rfl, trivial, cell_lt hc0, fun j hj => ?_⟩⟩, by omega⟩
      · have := nsz_mem hx
        unfold txtB; omega
      · rw [hlen] at hj
        rw [hget j hj, ← add_plain]
        exact (hf j hj).1
theorem items_trod {H : Type} {enc : TypeId × Value → H} {W : World} {base fuel N : Nat} {c : Value} {x : DataW H × List MemPlace}
    (ih : ∀ (fuel : Nat) (cs : List Value) (x : DataW H × List MemPlace), Rows.uptoBulk x.1 ≤ N → DataW.trod enc Tryz.prog W base (fun _ => true) true fuel 27 cs = some x → ∃ j c0 c1 c2 c3 c4 c5, cs = [c0, c1, c2, c3, c4, c5] ∧ JAt Any W N (.agg #[c0, c1, c2, c3, c4, c5]) j ∧ jsz j ≤ Rows.uptoBulk x.1)
    (hN : Rows.uptoBulk x.1 ≤ N) (hw : Rows.uptoBulk x.1 ≤ 1048576) (hf : DataW.trod enc Tryz.prog W base (fun _ => true) true fuel 25 [c] = some x) :
    ∃ ai ci is, c = .slice ai (is : List J).length ci ∧ is.length ≤ ci ∧ is.length ≤ 140737488355328 ∧ ItemsAt Any W N ai is ∧ jszL is + 1 ≤ Rows.uptoBulk x.1 := by
  rcases Deep.open_slice Tryz.underlying25 hf with ⟨hcs, hx4⟩ | ⟨a, len, cap, mm, n2, D, Pl, hcs, hb, hl, hmx, hmm, hx4, hel⟩
  · simp at hcs
    subst hcs
    rw [hx4]
    exact ⟨none, 0, [], rfl, by simp, by simp, fun h => by simp at h, by simp [jszL, Rows.uptoBulk]⟩
  · simp at hcs
    subst hcs
    simp only [if_true] at hmm
    subst hmm
    have hd : x.1 = .slice ((List.range len).map D) ((List.range (mm - len)).map fun j => D (len + j)) := congrArg Prod.fst hx4
    rw [hd] at hw hN ⊢
    simp only [Rows.uptoBulk] at hN hw ⊢
    rw [cellsJson] at hel
    by_cases hl0 : len = 0
    · subst hl0
      exact ⟨some a, mm, [], rfl, by simp, by simp, fun h => by simp at h, by simp [jszL]⟩
    · have one : ∀ i, i < len → ∃ j : J, (∃ u, (∀ q c, (aggC u)[q]? = some c → W.cell? (a.add (i * 6 + q)) = some c) ∧ (∃ c, W.cell? (a.add (i * 6)) = some c) ∧ JAt Any W N u j) ∧ jsz j ≤ Rows.uptoBulk (D i) := by
        intro i hi
        obtain ⟨cs', hc, ht'⟩ := hel i (by omega)
        obtain ⟨_, hcl', hcc⟩ := World.cells?_some hc
        have hbi := bulk_map D (List.range len) i (List.mem_range.2 hi)
        obtain ⟨j, d0, d1, d2, d3, d4, d5, rfl, hr, hz⟩ := ih _ _ _ (show Rows.uptoBulk (D i, Pl i).1 ≤ N by show Rows.uptoBulk (D i) ≤ N; omega) ht'
        refine ⟨j, ⟨_, fun q c hq => ?_, ?_, hr⟩, hz⟩
        · have hq5 : q < 6 := by have := (List.getElem?_eq_some_iff.1 hq).1; simpa [aggC] using this
          have h0 := hcc q (by omega)
          rw [Deep.add_add] at h0
          rw [h0]
          have : [d0, d1, d2, d3, d4, d5][q]? = some c := hq
          simpa using this
        · have h0 := hcc 0 (by omega)
          rw [Deep.add_add] at h0
          exact ⟨_, h0⟩
      haveI : Inhabited J := ⟨j0⟩
      obtain ⟨f, hf⟩ := Deep.choose_lt one
      have hlen : ((List.range len).map f).length = len := by simp
      have hget : ∀ j, j < len → ((List.range len).map f).getD j j0 = f j := fun j hj => by
        rw [List.getD_eq_getElem?_getD, List.getElem?_map, List.getElem?_range hj]; rfl
      have hnz := jszL_map D f (List.range len) (fun i hi => (hf i (List.mem_range.1 hi)).2)
      have hnl := jszL_len ((List.range len).map f)
      rw [hlen] at hnl
      obtain ⟨b, off, spot⟩ := a
      obtain ⟨⟨u0, _, ⟨c, hc0⟩, _⟩, _⟩ := hf 0 (by omega)
      have hspot : spot = none := by simpa [Addr.add] using World.cell?_spot hc0
      subst hspot
      rw [add_plain] at hc0
      refine ⟨_, _, (List.range len).map f, by rw [hlen], by omega, by omega, fun _ => ⟨b, off, rfl, trivial, cell_lt hc0, fun j hj => ?_⟩, by omega⟩
      rw [hlen] at hj
      rw [hget j hj]
      obtain ⟨⟨u, hu, _, hr⟩, _⟩ := hf j hj
      refine ⟨u, fun q c hq => ?_, hr⟩
      have := hu q c hq
      rw [add_plain] at this
      rw [Nat.add_assoc]
      exact this

set_option maxRecDepth 100000 in
set_option maxHeartbeats 1000000 in
theorem json_trod {H : Type} {enc : TypeId × Value → H} {W : World} {base : Nat} : ∀ (N : Nat), N ≤ 1048576 → ∀ (fuel : Nat) (cs : List Value) (x : DataW H × List MemPlace), Rows.uptoBulk x.1 ≤ N → DataW.trod enc Tryz.prog W base (fun _ => true) true fuel 27 cs = some x →
    ∃ j c0 c1 c2 c3 c4 c5, cs = [c0, c1, c2, c3, c4, c5] ∧ JAt Any W N (.agg #[c0, c1, c2, c3, c4, c5]) j ∧ jsz j ≤ Rows.uptoBulk x.1 := by
  intro N
  induction N with
  | zero =>
    intro _ fuel cs x hN h
    obtain ⟨y0, y1, y2, y3, y4, n', hx, _⟩ := trod_struct5 Tryz.underlying27 h
    rw [hx, Rows.uptoBulk] at hN
    omega
  | succ N ih =>
    intro hNm fuel cs x hN h
    obtain ⟨y0, y1, y2, y3, y4, n', hx, hcl, t0, t1, t2, t3, t4⟩ := trod_struct5 Tryz.underlying27 h
    rw [cellsJson] at hcl
    simp only [cellsInt, cellsStrJ, cellsStrs, cellsJsons, cellsDec] at t0 t1 t2 t3 t4
    match cs, hcl with
    | [c0, c1, c2, c3, c4, c5], _ =>
      rw [hx] at hN ⊢
      simp only [Rows.uptoBulk, Rows.uptoBulkAll] at hN ⊢
      obtain ⟨k, e0, hy0, w0⟩ := DataW.trod_int Tryz.underlying3 t0
      obtain ⟨z0, z1, n2, hx1, -, u0, u1⟩ := trod_struct2J Tryz.underlying23 t1
      simp only [cellsInt] at u0 u1
      obtain ⟨m, e1, hz0, w1⟩ := DataW.trod_int Tryz.underlying3 u0
      obtain ⟨e, e2, hz1, w2⟩ := DataW.trod_int Tryz.underlying3 u1
      obtain ⟨s, e3, hy2, hs⟩ := DataW.trod_string Tryz.underlying9 t2
      simp at e0 e1 e2 e3 t3 t4
      subst e0 e1 e2 e3
      rw [hx1, hy0, hy2, hz0, hz1] at hN ⊢
      simp only [Rows.uptoBulk, Rows.uptoBulkAll] at hN ⊢
      obtain ⟨ns, hns, hnz⟩ := strs_trod t3 (by omega)
      obtain ⟨ai, ci, is, rfl, q1, q2, q3, q4⟩ := items_trod (ih (by omega)) (by omega) (by omega) t4
      refine ⟨.mk k m e s.data.toList ns is, _, _, _, _, _, _, rfl, ⟨_, _, _, rfl, i64B_of' w0, i64B_of' w1, i64B_of' w2, by unfold txtB; omega, hns, q1, q2, q3⟩, ?_⟩
      rw [jsz]
      omega
set_option maxRecDepth 100000 in
/-- A value among the arguments. -/
theorem open_json_at {H : Type} {enc : TypeId × Value → H} {W : World} {base : Nat} {v : Value} {d : DataW H} {p : List MemPlace}
    (hval : Value.okWide Tryz.prog W .any base 27 v) (h : DataW.Trod enc Tryz.prog W 0 (fun _ => true) true 27 v d p) (hw : Rows.uptoBulk d ≤ 1048576) : ∃ j, JA Any W v j ∧ jsz j ≤ Rows.uptoBulk d := by
  obtain ⟨cs, rfl, hsz⟩ := okWide_struct Tryz.underlying27 hval
  obtain ⟨fuel, hf⟩ := h
  obtain ⟨j, c0, c1, c2, c3, c4, c5, hcs, hr, hz⟩ := json_trod 1048576 (Nat.le_refl _) fuel _ _ hw hf
  simp only [Value.cells] at hcs
  obtain rfl : cs = #[c0, c1, c2, c3, c4, c5] := Array.ext' hcs
  exact ⟨j, ⟨_, hr⟩, hz⟩
end Go.Proofs.YtmlpefpjemiccaaGreatDoor.Js
