import Derived.Test.YtmlpefpjemiccaaGreatDoorQw
import Derived.Maps.OwnOps
import Derived.Maps.AppendAt
/- The document's Parser: value of a word. -/
set_option linter.unusedVariables false
set_option linter.unusedSimpArgs false
namespace Go.Proofs.YtmlpefpjemiccaaGreatDoor.Js
open Go.RowKit Lex

theorem rv_end {w W1 : World} {pb bt cap n : Nat} {ts : List Tok} {r : R} {k m e : Int} {t : ByteArray} {a a' : Option Addr} {nn c nn' c' : Nat} (hp : pb < w.heap.size) (hbt : bt < w.heap.size) (hP : Pa W1 pb bt cap ts r.l r.er) (hc : Chg (· = pb) w W1)
    (hJ : r.er = 0 → ∀ w', JAt (fun b => w.heap.size ≤ b) w' n (.agg #[.int .i64 k, .int .i64 m, .int .i64 e, .string t, .slice a nn c, .slice a' nn' c']) r.j) (c0 c1 c2 c3 c4 c5 : Value) :
    RVRet w pb bt cap ts n r (.returned (.agg #[.int .i64 k, .int .i64 m, .int .i64 e, .string t, .slice a nn c, .slice a' nn' c'])) (put6 W1 w.heap.size 0 c0 c1 c2 c3 c4 c5) := by
  obtain ⟨p1, p2, p3⟩ := put6_os W1 w.heap.size 0 c0 c1 c2 c3 c4 c5
  exact ⟨_, _, _, _, _, _, _, _, _, _, rfl, hP.keep (put6_block _ _ _ _ _ _ _ _ _ _ (by omega)) (put6_block _ _ _ _ _ _ _ _ _ _ (by omega)) (by rw [put6_size]; exact Nat.le_refl _),
    ⟨p1.trans hc.os, p2.trans hc.tape, p3.trans hc.output, by rw [put6_size]; exact hc.size, fun k hk hx => (put6_block _ _ _ _ _ _ _ _ _ _ (by omega)).trans (hc.block k hk hx)⟩,
    fun he => hJ he _⟩
theorem make_map (w : World) : (Instr.makeMap 89 none).run Tryz.prog w = .ok (.map (some w.heap.size)) (w.alloc (.map #[] 0)) := by kernel_rfl
theorem five_t {w : World} {b : Nat} {T : TypeId} {f : Nat × Nat} {c0 c1 c2 c3 c4 : Value} (h : w.heap[b]? = some (.cells #[c0, c1, c2, c3, c4] T f)) :
    w.cell? ⟨b, 0, none⟩ = some c0 ∧ w.cell? ⟨b, 1, none⟩ = some c1 ∧ w.cell? ⟨b, 2, none⟩ = some c2 ∧ w.cell? ⟨b, 3, none⟩ = some c3 ∧ w.cell? ⟨b, 4, none⟩ = some c4 := by
  have k : ∀ i, w.cell? ⟨b, i, none⟩ = (#[c0, c1, c2, c3, c4] : Array Value)[i]? := fun i => cell_of_row _ _ _ _ _ _ h
  exact ⟨k 0, k 1, k 2, k 3, k 4⟩
theorem zero_int (w : World) : (zeroValue 3).run Tryz.prog w = .ok (.int .i64 0) w := by kernel_rfl
/-- What the words are. -/
def words3 : DataW Unit := ((DataW.put (.map []) (.string nullL) (.lit (.int .i64 1))).put (.string falseL) (.lit (.int .i64 2))).put (.string trueL) (.lit (.int .i64 3))
theorem words_null : words3.atKey (.string nullL) (.lit (.int .i64 0)) = .lit (.int .i64 1) := by kernel_rfl
theorem words_false : words3.atKey (.string falseL) (.lit (.int .i64 0)) = .lit (.int .i64 2) := by kernel_rfl
theorem words_true : words3.atKey (.string trueL) (.lit (.int .i64 0)) = .lit (.int .i64 3) := by kernel_rfl
theorem key_null : keyOf Tryz.prog 9 (.string ⟨#[110, 117, 108, 108]⟩) = some (.string nullL) := Go.WideMaps.keyOf_string_mk Tryz.underlying9 (by decide)
theorem key_false : keyOf Tryz.prog 9 (.string ⟨#[102, 97, 108, 115, 101]⟩) = some (.string falseL) := Go.WideMaps.keyOf_string_mk Tryz.underlying9 (by decide)
theorem key_true : keyOf Tryz.prog 9 (.string ⟨#[116, 114, 117, 101]⟩) = some (.string trueL) := Go.WideMaps.keyOf_string_mk Tryz.underlying9 (by decide)
theorem elem_int (n : Int) (h : (Lit.int .i64 n).wf = true) : plainElem (H := Unit) Tryz.prog 3 (.int .i64 n) = some (.lit (.int .i64 n), []) := plainElem_int Tryz.underlying3 h
/-- Blocks that were there, when a map of one's own has been filled. -/
theorem filled {W w1 w2 w3 : World} {b : Nat} (hb : b = W.heap.size) (g1 : ((W.alloc (.map #[] 0)).drew).grownBy w1 (some b)) (g2 : w1.grownBy w2 (some b)) (g3 : w2.grownBy w3 (some b)) : Below W.heap.size W w3 := by
  subst hb
  have s1 := g1.size
  have s2 := g2.size
  have s3 := g3.size
  simp at s1
  refine ⟨g3.os.trans (g2.os.trans g1.os), g3.tape.trans (g2.tape.trans g1.tape), g3.output.trans (g2.output.trans g1.output), by omega, fun k hk => ?_⟩
  have hne : some k ≠ some W.heap.size := fun h => by cases h; omega
  rw [g3.block k (by omega) hne, g2.block k (by omega) hne, g1.block k (by simp; omega) hne]
  exact Below.heap_alloc _ _ _ hk
/-- A map is made and filled with the three words. -/
theorem fill3 (W : World) (b : Nat) (hb : b = W.heap.size) : ∃ w1 w2 w3, (Instr.mapUpdate 89 (.map (some b)) (.string ⟨#[110, 117, 108, 108]⟩) (.int .i64 1)).run Tryz.prog ((W.alloc (.map #[] 0)).drew) = .ok () w1 ∧
    (Instr.mapUpdate 89 (.map (some b)) (.string ⟨#[102, 97, 108, 115, 101]⟩) (.int .i64 2)).run Tryz.prog w1 = .ok () w2 ∧
    (Instr.mapUpdate 89 (.map (some b)) (.string ⟨#[116, 114, 117, 101]⟩) (.int .i64 3)).run Tryz.prog w2 = .ok () w3 ∧ Below W.heap.size W w3 ∧
    (Instr.lookup 89 (.map (some b)) (.string ⟨#[110, 117, 108, 108]⟩) false).run Tryz.prog w3 = .ok (.int .i64 1) w3 ∧
    (Instr.lookup 89 (.map (some b)) (.string ⟨#[102, 97, 108, 115, 101]⟩) false).run Tryz.prog w3 = .ok (.int .i64 2) w3 ∧
    (Instr.lookup 89 (.map (some b)) (.string ⟨#[116, 114, 117, 101]⟩) false).run Tryz.prog w3 = .ok (.int .i64 3) w3 := by
  have h0 : ((W.alloc (.map #[] 0)).drew).ownsMap Tryz.prog 9 (plainElem (H := Unit) Tryz.prog 3) b 0 (.map []) := by rw [hb]; exact World.ownsMap_made _ _ _ _
  obtain ⟨w1, r1, h1, g1⟩ := h0.update law_str Tryz.underlying89 (by unfold maxLen; omega) key_null (elem_int 1 rfl)
  obtain ⟨w2, r2, h2, g2⟩ := h1.update law_str Tryz.underlying89 (by unfold maxLen; omega) key_false (elem_int 2 rfl)
  obtain ⟨w3, r3, h3, g3⟩ := h2.update law_str Tryz.underlying89 (by unfold maxLen; omega) key_true (elem_int 3 rfl)
  refine ⟨w1, w2, w3, r1, r2, r3, filled hb g1 g2 g3, ?_, ?_, ?_⟩
  · obtain ⟨c, hc, ha, _⟩ := h3.lookup_int law_str Tryz.underlying89 Tryz.underlying3 (zero_int _) key_null
    rw [hc]; have := words_null.symm.trans ha; cases this; rfl
  · obtain ⟨c, hc, ha, _⟩ := h3.lookup_int law_str Tryz.underlying89 Tryz.underlying3 (zero_int _) key_false
    rw [hc]; have := words_false.symm.trans ha; cases this; rfl
  · obtain ⟨c, hc, ha, _⟩ := h3.lookup_int law_str Tryz.underlying89 Tryz.underlying3 (zero_int _) key_true
    rw [hc]; have := words_true.symm.trans ha; cases this; rfl
set_option maxHeartbeats 4000000 in
set_option maxRecDepth 100000 in
theorem rleaf_null {w : World} {pb bt cap : Nat} {ts l : List Tok} {x : Tok} (h : Pa w pb bt cap ts (x :: l) 0) (hx : x.k = 4) (hc : x.t = nullL) (D : Int) (hD : D ≤ 16) (n : Nat) :
    Calls Tryz.prog 29 #[.pointer (some ⟨pb, 0, none⟩), .int .i64 D] w (RVRet w pb bt cap ts (n + 1) ⟨0, begunS x, l⟩) := by
  have HP := Lib.hid h
  obtain ⟨x0, x1, x2, x3, x4⟩ := h.here
  obtain ⟨r0, r1, r2⟩ := three_of h.blk
  have pf := free_of h.blk 2
  have pf1 := free_of h.blk 1
  have hpl := h.lt
  have htl := h.blt
  have hle := h.at_.1
  have i1 : ((ts.length - (x :: l).length : Nat) : Int) < (ts.length : Int) := by omega
  have hln := h.len
  have HJ : Hid (∀ w', JAt (fun b => w.heap.size ≤ b) w' (n + 1) (.agg #[.int .i64 1, .int .i64 0, .int .i64 0, .string ⟨#[]⟩, .slice none 0 0, .slice none 0 0]) (begunS x)) := fun w' => by
    have := begun_jat (S := fun b => w.heap.size ≤ b) (w := w') (d := n) (h.good x (h.suf.mem (by simp)))
    unfold begunV bareV at this
    have hb : begunS x = .mk 1 0 0 [] [] [] := by unfold begunS; rw [if_neg (by omega), if_neg (by omega), if_pos (.inl hx), hc]; rfl
    rw [hb] at this ⊢
    exact this
  have HN := Lib.hid (h.next (x := x) (by omega))
  rw [hx] at x0
  rw [hc] at x1
  unfold nullL at x1
  clear h
  obtain ⟨P, HPP⟩ : ∃ P, Hid (ts.length - (x :: l).length = P) := ⟨_, rfl⟩
  rw [HPP.out] at hle i1 r1 x0 x1 x2 x3 x4
  obtain ⟨NN, HNN⟩ : ∃ N, Hid (ts.length = N) := ⟨_, rfl⟩
  rw [HNN.out] at i1 hln hle r0
  rw [HPP.out] at HN
  generalize x.m = M at *
  generalize x.e = EE at *
  generalize x.p = Q at *
  obtain ⟨w1, w2, w3, f1, f2, f3, fb, l1, l2, l3⟩ := fill3 (((w.setCell ⟨pb, 1, none⟩ (.int .i64 ((P : Int) + 1))).alloc (.cells #[.int .i64 0, .int .i64 0, .int .i64 0, .string ⟨#[]⟩, .slice none 0 0, .slice none 0 0] 27)).alloc (.cells #[.int .i64 4, .string ⟨#[110, 117, 108, 108]⟩, .int .i64 M, .int .i64 EE, .int .i64 Q] 62)) (w.heap.size + 1 + 1) (by simp [World.setCell])
  have hs0 : (w.setCell ⟨pb, 1, none⟩ (.int .i64 ((P : Int) + 1))).heap.size = w.heap.size := by simp [World.setCell]
  have q0 : w3.heap[w.heap.size]? = some (.cells #[.int .i64 0, .int .i64 0, .int .i64 0, .string ⟨#[]⟩, .slice none 0 0, .slice none 0 0] 27 (0, 0)) := by
    rw [fb.block _ (by simp [World.setCell] <;> omega)]
    have := two_old (w.setCell ⟨pb, 1, none⟩ (.int .i64 ((P : Int) + 1))) (.cells #[.int .i64 0, .int .i64 0, .int .i64 0, .string ⟨#[]⟩, .slice none 0 0, .slice none 0 0] 27) (.cells #[.int .i64 4, .string ⟨#[110, 117, 108, 108]⟩, .int .i64 M, .int .i64 EE, .int .i64 Q] 62)
    rwa [hs0] at this
  have q1 : w3.heap[w.heap.size + 1]? = some (.cells #[.int .i64 4, .string ⟨#[110, 117, 108, 108]⟩, .int .i64 M, .int .i64 EE, .int .i64 Q] 62 (0, 0)) := by
    rw [fb.block _ (by simp [World.setCell] <;> omega)]
    have := two_new (w.setCell ⟨pb, 1, none⟩ (.int .i64 ((P : Int) + 1))) (.cells #[.int .i64 0, .int .i64 0, .int .i64 0, .string ⟨#[]⟩, .slice none 0 0, .slice none 0 0] 27) (.cells #[.int .i64 4, .string ⟨#[110, 117, 108, 108]⟩, .int .i64 M, .int .i64 EE, .int .i64 Q] 62)
    rwa [hs0] at this
  have HB : Hid (Below (w.setCell ⟨pb, 1, none⟩ (.int .i64 ((P : Int) + 1))).heap.size (w.setCell ⟨pb, 1, none⟩ (.int .i64 ((P : Int) + 1))) w3) := (((Below.refl _ _).alloc (Nat.le_refl _) _).alloc (by simp) _).trans (fb.mono (by simp; omega))
  obtain ⟨z0, z1, z2, z3, z4, z5⟩ := six_of q0
  obtain ⟨y0, y1, y2, y3, y4⟩ := five_t q1
  have g0 := free_of q0 0
  have g1 := free_of q0 1
  have g2 := free_of q0 2
  have g3 := free_of q0 3
  have g4 := free_of q0 4
  have g5 := free_of q0 5
  have mk := make_map
  have hlq := Own.block_lt q1
  clear fb q0 q1 hs0
  go_enter Tryz.func29, Tryz.ntmps29
  go_wp2_with fail
  go_region
  go_wp2_with fail
  refine bodyPost_ret (v := .agg #[.int .i64 1, .int .i64 0, .int .i64 0, .string ⟨#[]⟩, .slice none 0 0, .slice none 0 0]) (by simp [results, Tryz.results29, go_sem, z0, z1, z2, z3, z4, z5]) rfl ?_
  exact rv_end hpl htl (HN.out.below HB.out) ((Chg.setCell (X := fun k => k = pb) (Chg.refl _ w) (p := ⟨pb, 1, none⟩) (.inl rfl) _).trans (.of_below HB.out)) (fun _ w' => HJ.out w') _ _ _ _ _ _
set_option maxHeartbeats 4000000 in
set_option maxRecDepth 100000 in
theorem rleaf_false {w : World} {pb bt cap : Nat} {ts l : List Tok} {x : Tok} (h : Pa w pb bt cap ts (x :: l) 0) (hx : x.k = 4) (hc : x.t = falseL) (D : Int) (hD : D ≤ 16) (n : Nat) :
    Calls Tryz.prog 29 #[.pointer (some ⟨pb, 0, none⟩), .int .i64 D] w (RVRet w pb bt cap ts (n + 1) ⟨0, begunS x, l⟩) := by
  have HP := Lib.hid h
  obtain ⟨x0, x1, x2, x3, x4⟩ := h.here
  obtain ⟨r0, r1, r2⟩ := three_of h.blk
  have pf := free_of h.blk 2
  have pf1 := free_of h.blk 1
  have hpl := h.lt
  have htl := h.blt
  have hle := h.at_.1
  have i1 : ((ts.length - (x :: l).length : Nat) : Int) < (ts.length : Int) := by omega
  have hln := h.len
  have HJ : Hid (∀ w', JAt (fun b => w.heap.size ≤ b) w' (n + 1) (.agg #[.int .i64 2, .int .i64 0, .int .i64 0, .string ⟨#[]⟩, .slice none 0 0, .slice none 0 0]) (begunS x)) := fun w' => by
    have := begun_jat (S := fun b => w.heap.size ≤ b) (w := w') (d := n) (h.good x (h.suf.mem (by simp)))
    unfold begunV bareV at this
    have hb : begunS x = .mk 2 0 0 [] [] [] := by unfold begunS; rw [if_neg (by omega), if_neg (by omega), if_pos (.inl hx), hc]; rfl
    rw [hb] at this ⊢
    exact this
  have HN := Lib.hid (h.next (x := x) (by omega))
  rw [hx] at x0
  rw [hc] at x1
  unfold falseL at x1
  clear h
  obtain ⟨P, HPP⟩ : ∃ P, Hid (ts.length - (x :: l).length = P) := ⟨_, rfl⟩
  rw [HPP.out] at hle i1 r1 x0 x1 x2 x3 x4
  obtain ⟨NN, HNN⟩ : ∃ N, Hid (ts.length = N) := ⟨_, rfl⟩
  rw [HNN.out] at i1 hln hle r0
  rw [HPP.out] at HN
  generalize x.m = M at *
  generalize x.e = EE at *
  generalize x.p = Q at *
  obtain ⟨w1, w2, w3, f1, f2, f3, fb, l1, l2, l3⟩ := fill3 (((w.setCell ⟨pb, 1, none⟩ (.int .i64 ((P : Int) + 1))).alloc (.cells #[.int .i64 0, .int .i64 0, .int .i64 0, .string ⟨#[]⟩, .slice none 0 0, .slice none 0 0] 27)).alloc (.cells #[.int .i64 4, .string ⟨#[102, 97, 108, 115, 101]⟩, .int .i64 M, .int .i64 EE, .int .i64 Q] 62)) (w.heap.size + 1 + 1) (by simp [World.setCell])
  have hs0 : (w.setCell ⟨pb, 1, none⟩ (.int .i64 ((P : Int) + 1))).heap.size = w.heap.size := by simp [World.setCell]
  have q0 : w3.heap[w.heap.size]? = some (.cells #[.int .i64 0, .int .i64 0, .int .i64 0, .string ⟨#[]⟩, .slice none 0 0, .slice none 0 0] 27 (0, 0)) := by
    rw [fb.block _ (by simp [World.setCell] <;> omega)]
    have := two_old (w.setCell ⟨pb, 1, none⟩ (.int .i64 ((P : Int) + 1))) (.cells #[.int .i64 0, .int .i64 0, .int .i64 0, .string ⟨#[]⟩, .slice none 0 0, .slice none 0 0] 27) (.cells #[.int .i64 4, .string ⟨#[102, 97, 108, 115, 101]⟩, .int .i64 M, .int .i64 EE, .int .i64 Q] 62)
    rwa [hs0] at this
  have q1 : w3.heap[w.heap.size + 1]? = some (.cells #[.int .i64 4, .string ⟨#[102, 97, 108, 115, 101]⟩, .int .i64 M, .int .i64 EE, .int .i64 Q] 62 (0, 0)) := by
    rw [fb.block _ (by simp [World.setCell] <;> omega)]
    have := two_new (w.setCell ⟨pb, 1, none⟩ (.int .i64 ((P : Int) + 1))) (.cells #[.int .i64 0, .int .i64 0, .int .i64 0, .string ⟨#[]⟩, .slice none 0 0, .slice none 0 0] 27) (.cells #[.int .i64 4, .string ⟨#[102, 97, 108, 115, 101]⟩, .int .i64 M, .int .i64 EE, .int .i64 Q] 62)
    rwa [hs0] at this
  have HB : Hid (Below (w.setCell ⟨pb, 1, none⟩ (.int .i64 ((P : Int) + 1))).heap.size (w.setCell ⟨pb, 1, none⟩ (.int .i64 ((P : Int) + 1))) w3) := (((Below.refl _ _).alloc (Nat.le_refl _) _).alloc (by simp) _).trans (fb.mono (by simp; omega))
  obtain ⟨z0, z1, z2, z3, z4, z5⟩ := six_of q0
  obtain ⟨y0, y1, y2, y3, y4⟩ := five_t q1
  have g0 := free_of q0 0
  have g1 := free_of q0 1
  have g2 := free_of q0 2
  have g3 := free_of q0 3
  have g4 := free_of q0 4
  have g5 := free_of q0 5
  have mk := make_map
  have hlq := Own.block_lt q1
  clear fb q0 q1 hs0
  go_enter Tryz.func29, Tryz.ntmps29
  go_wp2_with fail
  go_region
  go_wp2_with fail
  refine bodyPost_ret (v := .agg #[.int .i64 2, .int .i64 0, .int .i64 0, .string ⟨#[]⟩, .slice none 0 0, .slice none 0 0]) (by simp [results, Tryz.results29, go_sem, z0, z1, z2, z3, z4, z5]) rfl ?_
  exact rv_end hpl htl (HN.out.below HB.out) ((Chg.setCell (X := fun k => k = pb) (Chg.refl _ w) (p := ⟨pb, 1, none⟩) (.inl rfl) _).trans (.of_below HB.out)) (fun _ w' => HJ.out w') _ _ _ _ _ _
set_option maxHeartbeats 4000000 in
set_option maxRecDepth 100000 in
theorem rleaf_true {w : World} {pb bt cap : Nat} {ts l : List Tok} {x : Tok} (h : Pa w pb bt cap ts (x :: l) 0) (hx : x.k = 4) (hc : x.t = trueL) (D : Int) (hD : D ≤ 16) (n : Nat) :
    Calls Tryz.prog 29 #[.pointer (some ⟨pb, 0, none⟩), .int .i64 D] w (RVRet w pb bt cap ts (n + 1) ⟨0, begunS x, l⟩) := by
  have HP := Lib.hid h
  obtain ⟨x0, x1, x2, x3, x4⟩ := h.here
  obtain ⟨r0, r1, r2⟩ := three_of h.blk
  have pf := free_of h.blk 2
  have pf1 := free_of h.blk 1
  have hpl := h.lt
  have htl := h.blt
  have hle := h.at_.1
  have i1 : ((ts.length - (x :: l).length : Nat) : Int) < (ts.length : Int) := by omega
  have hln := h.len
  have HJ : Hid (∀ w', JAt (fun b => w.heap.size ≤ b) w' (n + 1) (.agg #[.int .i64 3, .int .i64 0, .int .i64 0, .string ⟨#[]⟩, .slice none 0 0, .slice none 0 0]) (begunS x)) := fun w' => by
    have := begun_jat (S := fun b => w.heap.size ≤ b) (w := w') (d := n) (h.good x (h.suf.mem (by simp)))
    unfold begunV bareV at this
    have hb : begunS x = .mk 3 0 0 [] [] [] := by unfold begunS; rw [if_neg (by omega), if_neg (by omega), if_pos (.inl hx), hc]; rfl
    rw [hb] at this ⊢
    exact this
  have HN := Lib.hid (h.next (x := x) (by omega))
  rw [hx] at x0
  rw [hc] at x1
  unfold trueL at x1
  clear h
  obtain ⟨P, HPP⟩ : ∃ P, Hid (ts.length - (x :: l).length = P) := ⟨_, rfl⟩
  rw [HPP.out] at hle i1 r1 x0 x1 x2 x3 x4
  obtain ⟨NN, HNN⟩ : ∃ N, Hid (ts.length = N) := ⟨_, rfl⟩
  rw [HNN.out] at i1 hln hle r0
  rw [HPP.out] at HN
  generalize x.m = M at *
  generalize x.e = EE at *
  generalize x.p = Q at *
  obtain ⟨w1, w2, w3, f1, f2, f3, fb, l1, l2, l3⟩ := fill3 (((w.setCell ⟨pb, 1, none⟩ (.int .i64 ((P : Int) + 1))).alloc (.cells #[.int .i64 0, .int .i64 0, .int .i64 0, .string ⟨#[]⟩, .slice none 0 0, .slice none 0 0] 27)).alloc (.cells #[.int .i64 4, .string ⟨#[116, 114, 117, 101]⟩, .int .i64 M, .int .i64 EE, .int .i64 Q] 62)) (w.heap.size + 1 + 1) (by simp [World.setCell])
  have hs0 : (w.setCell ⟨pb, 1, none⟩ (.int .i64 ((P : Int) + 1))).heap.size = w.heap.size := by simp [World.setCell]
  have q0 : w3.heap[w.heap.size]? = some (.cells #[.int .i64 0, .int .i64 0, .int .i64 0, .string ⟨#[]⟩, .slice none 0 0, .slice none 0 0] 27 (0, 0)) := by
    rw [fb.block _ (by simp [World.setCell] <;> omega)]
    have := two_old (w.setCell ⟨pb, 1, none⟩ (.int .i64 ((P : Int) + 1))) (.cells #[.int .i64 0, .int .i64 0, .int .i64 0, .string ⟨#[]⟩, .slice none 0 0, .slice none 0 0] 27) (.cells #[.int .i64 4, .string ⟨#[116, 114, 117, 101]⟩, .int .i64 M, .int .i64 EE, .int .i64 Q] 62)
    rwa [hs0] at this
  have q1 : w3.heap[w.heap.size + 1]? = some (.cells #[.int .i64 4, .string ⟨#[116, 114, 117, 101]⟩, .int .i64 M, .int .i64 EE, .int .i64 Q] 62 (0, 0)) := by
    rw [fb.block _ (by simp [World.setCell] <;> omega)]
    have := two_new (w.setCell ⟨pb, 1, none⟩ (.int .i64 ((P : Int) + 1))) (.cells #[.int .i64 0, .int .i64 0, .int .i64 0, .string ⟨#[]⟩, .slice none 0 0, .slice none 0 0] 27) (.cells #[.int .i64 4, .string ⟨#[116, 114, 117, 101]⟩, .int .i64 M, .int .i64 EE, .int .i64 Q] 62)
    rwa [hs0] at this
  have HB : Hid (Below (w.setCell ⟨pb, 1, none⟩ (.int .i64 ((P : Int) + 1))).heap.size (w.setCell ⟨pb, 1, none⟩ (.int .i64 ((P : Int) + 1))) w3) := (((Below.refl _ _).alloc (Nat.le_refl _) _).alloc (by simp) _).trans (fb.mono (by simp; omega))
  obtain ⟨z0, z1, z2, z3, z4, z5⟩ := six_of q0
  obtain ⟨y0, y1, y2, y3, y4⟩ := five_t q1
  have g0 := free_of q0 0
  have g1 := free_of q0 1
  have g2 := free_of q0 2
  have g3 := free_of q0 3
  have g4 := free_of q0 4
  have g5 := free_of q0 5
  have mk := make_map
  have hlq := Own.block_lt q1
  clear fb q0 q1 hs0
  go_enter Tryz.func29, Tryz.ntmps29
  go_wp2_with fail
  go_region
  go_wp2_with fail
  refine bodyPost_ret (v := .agg #[.int .i64 3, .int .i64 0, .int .i64 0, .string ⟨#[]⟩, .slice none 0 0, .slice none 0 0]) (by simp [results, Tryz.results29, go_sem, z0, z1, z2, z3, z4, z5]) rfl ?_
  exact rv_end hpl htl (HN.out.below HB.out) ((Chg.setCell (X := fun k => k = pb) (Chg.refl _ w) (p := ⟨pb, 1, none⟩) (.inl rfl) _).trans (.of_below HB.out)) (fun _ w' => HJ.out w') _ _ _ _ _ _
end Go.Proofs.YtmlpefpjemiccaaGreatDoor.Js
