import Derived.Test.YtgfkpfppdoeifaaGreatDoorSm
import Derived.Test.YtgfkpfppdoeifaaGreatDoorPr
import Derived.RegionTactic
import Derived.BigRegion
/- The reader: here, take, kindOf, begun. -/
set_option linter.unusedVariables false
set_option linter.unusedSimpArgs false
namespace Go.Proofs.YtgfkpfppdoeifaaGreatDoor.Js
open Go.RowKit Lex

/-- A reader at a block, its tokens, and those that are left. -/
structure Rd (w : World) (rb bt cap : Nat) (ts l : List Tok) : Prop where
  blk : w.heap[rb]? = some (.cells #[.slice (some ⟨bt, 0, none⟩) ts.length cap, .int .i64 ((ts.length - l.length : Nat) : Int)] 88 (0, 0))
  toks : ∀ j, j < ts.length → TokIn w bt (j * 5) (ts.getD j tok0)
  ne : bt ≠ rb
  blt : bt < w.heap.size
  suf : l <:+ ts
  fin : EndL l
  len : ts.length ≤ 1000000
  good : AllG 1099511627776 ts
theorem Rd.lt {w : World} {rb bt cap : Nat} {ts l : List Tok} (h : Rd w rb bt cap ts l) : rb < w.heap.size := Own.block_lt h.blk
theorem Rd.keep {w w' : World} {rb bt cap : Nat} {ts l : List Tok} (h : Rd w rb bt cap ts l) (h1 : w'.heap[rb]? = w.heap[rb]?) (h2 : w'.heap[bt]? = w.heap[bt]?) (hs : w.heap.size ≤ w'.heap.size) : Rd w' rb bt cap ts l :=
  ⟨h1.trans h.blk, fun j hj => by
    obtain ⟨a, b, c, d, e⟩ := h.toks j hj
    have q : ∀ o, w'.cell? ⟨bt, o, none⟩ = w.cell? ⟨bt, o, none⟩ := fun o => World.cell?_of_block (w := w) (a := ⟨bt, o, none⟩) h2
    exact ⟨(q _).trans a, (q _).trans b, (q _).trans c, (q _).trans d, (q _).trans e⟩, h.ne, Nat.lt_of_lt_of_le h.blt hs, h.suf, h.fin, h.len, h.good⟩
theorem Rd.below {w w' : World} {rb bt cap : Nat} {ts l : List Tok} (h : Rd w rb bt cap ts l) (hb : Below w.heap.size w w') : Rd w' rb bt cap ts l :=
  h.keep (hb.block _ h.lt) (hb.block _ h.blt) hb.size
theorem Rd.at_ {w : World} {rb bt cap : Nat} {ts l : List Tok} {x : Tok} (h : Rd w rb bt cap ts (x :: l)) : ts.length - (x :: l).length < ts.length ∧ ts.getD (ts.length - (x :: l).length) tok0 = x := by
  obtain ⟨p, hp⟩ := h.suf
  have hl := congrArg List.length hp
  rw [List.length_append] at hl
  have he : ts.length - (x :: l).length = p.length := by omega
  refine ⟨by simp at hl ⊢; omega, ?_⟩
  rw [he, ← hp, List.getD_eq_getElem?_getD, List.getElem?_append_right (Nat.le_refl _)]
  simp
/-- The reader has gone on by a token. -/
theorem Rd.next {w : World} {rb bt cap : Nat} {ts l : List Tok} {x : Tok} (h : Rd w rb bt cap ts (x :: l)) (hx : x.k ≠ 5) :
    Rd (w.setCell ⟨rb, 1, none⟩ (.int .i64 (((ts.length - (x :: l).length : Nat) : Int) + 1))) rb bt cap ts l := by
  have h1 := h.at_.1
  have hl := h.suf.length_le
  simp at hl
  refine ⟨?_, fun j hj => ?_, h.ne, by simpa [World.setCell] using h.blt, (List.suffix_cons x l).trans h.suf, h.fin.tail hx, h.len, h.good⟩
  · rw [show (((ts.length - (x :: l).length : Nat) : Int) + 1) = ((ts.length - l.length : Nat) : Int) by simp at h1 ⊢; omega]
    simp only [World.setCell]
    rw [Array.getElem?_modify, if_pos rfl, h.blk]
    rfl
  · obtain ⟨a, b, c, d, e⟩ := h.toks j hj
    have q : ∀ o v, (w.setCell ⟨rb, 1, none⟩ v).cell? ⟨bt, o, none⟩ = w.cell? ⟨bt, o, none⟩ := fun o v => World.cell?_of_block (w := w) (a := ⟨bt, o, none⟩) (Below.heap_setCell _ _ _ _ h.ne)
    exact ⟨(q _ _).trans a, (q _ _).trans b, (q _ _).trans c, (q _ _).trans d, (q _ _).trans e⟩
theorem two_of {w : World} {b : Nat} {T : TypeId} {f : Nat × Nat} {c0 c1 : Value} (h : w.heap[b]? = some (.cells #[c0, c1] T f)) : w.cell? ⟨b, 0, none⟩ = some c0 ∧ w.cell? ⟨b, 1, none⟩ = some c1 := by
  have k : ∀ i, w.cell? ⟨b, i, none⟩ = (#[c0, c1] : Array Value)[i]? := fun i => cell_of_row _ _ _ _ _ _ h
  exact ⟨k 0, k 1⟩
theorem free_of {w : World} {b : Nat} {cs : Array Value} {T : TypeId} (h : w.heap[b]? = some (.cells cs T (0, 0))) (i : Nat) : w.frozen? ⟨b, i, none⟩ = false := by
  simp [World.frozen?, h]

set_option maxHeartbeats 1000000 in
set_option maxRecDepth 100000 in
theorem here_any {w : World} {rb bt cap : Nat} {ts l : List Tok} {x : Tok} (h : Rd w rb bt cap ts (x :: l)) : Calls Tryz.prog 55 #[.pointer (some ⟨rb, 0, none⟩)] w (Ret (tokV x) w) := by
  obtain ⟨h1, h2⟩ := h.at_
  have hT := h.toks _ h1
  rw [h2] at hT
  obtain ⟨x0, x1, x2, x3, x4⟩ := hT
  obtain ⟨r0, r1⟩ := two_of h.blk
  have hrl := h.lt
  have htl := h.blt
  have i0 : (0 : Int) ≤ ((ts.length - (x :: l).length : Nat) : Int) := by omega
  have i1 : ((ts.length - (x :: l).length : Nat) : Int) < (ts.length : Int) := by omega
  have hlen := h.len
  clear h h2
  generalize ts.length - (x :: l).length = p at *
  generalize ts.length = n at *
  unfold tokV
  obtain ⟨K, T, M, E, Q⟩ := x
  simp only at x0 x1 x2 x3 x4 ⊢
  go_enter Tryz.func55, Tryz.ntmps55
  go_wp2
  go_region
  all_goals go_wp2_with fail
  all_goals refine bodyPost_ret (v := .agg #[.int .i64 K, .string ⟨T.toArray⟩, .int .i64 M, .int .i64 E, .int .i64 Q]) (by simp [results, Tryz.results55, go_sem]) rfl ⟨rfl, ?_⟩
  all_goals exact ((Below.refl _ _).alloc (Nat.le_refl _) _).drew
set_option maxHeartbeats 1000000 in
set_option maxRecDepth 100000 in
theorem take_any {w : World} {rb bt cap : Nat} {ts l : List Tok} {x : Tok} (h : Rd w rb bt cap ts (x :: l)) (c : UInt8) (s : ByteArray) (hs : (⟨#[c]⟩ : ByteArray) = s) :
    Calls Tryz.prog 159 #[.pointer (some ⟨rb, 0, none⟩), .string s] w fun e w' => e = .returned (.bool (sgB x c)) ∧ Rd w' rb bt cap ts (if sgB x c = true then l else x :: l) ∧ Moves w.heap.size rb w w' := by
  subst hs
  have H1 := Lib.hid (here_any h)
  unfold tokV at H1
  by_cases hk : x.k = 1
  · by_cases ht : x.t = [c]
    · have hsg : sgB x c = true := by unfold sgB; simp [hk, ht]
      rw [hsg]
      have HN := Lib.hid (fun w' (hb : Below w.heap.size w w') => (h.below hb).next (by omega))
      rw [hk, ht] at H1
      have hrl := h.lt
      have hl := h.len
      have hle := h.at_.1
      have HB := Lib.hid (fun w' (hb : Below w.heap.size w w') => (h.below hb).blk)
      clear h hk ht hsg
      generalize hP : ts.length - (x :: l).length = P at *
      have HPP := Lib.hid hP
      clear hP
      go_enter Tryz.func159, Tryz.ntmps159
      go_wp2_with (go_at_call 55; (with_reducible refine (H1.out).mono ?_); rintro e1 w1 ⟨rfl, hb1⟩; have hs1 := hb1.size; obtain ⟨r0, r1⟩ := two_of (HB.out w1 hb1); have rf := free_of (HB.out w1 hb1) 1; have hrl2 : rb < w1.heap.size := by omega)
      go_ret
      refine ⟨rfl, (HN.out w1 hb1).below ((Below.refl _ _).alloc (Nat.le_refl _) _), ((Moves.of_below hb1).setCell (p := ⟨rb, 1, none⟩) (.inr rfl) _).alloc ?_ _⟩
      show w.heap.size ≤ (w1.setCell _ _).heap.size
      simpa [World.setCell] using hs1
    · have hsg : sgB x c = false := by unfold sgB; simp [hk, ht]
      rw [hsg]
      have hne : (x.t == [c]) = false := by simpa using ht
      rw [hk] at H1
      have HN := Lib.hid (fun w' (hb : Below w.heap.size w w') => (h.below hb))
      clear h hk ht hsg
      go_enter Tryz.func159, Tryz.ntmps159
      go_wp2_with (go_at_call 55; (with_reducible refine (H1.out).mono ?_); rintro e1 w1 ⟨rfl, hb1⟩; have hs1 := hb1.size)
      go_ret
      have hbb := fun o => hb1.alloc hs1 o
      exact ⟨rfl, HN.out _ (hbb _), Moves.of_below (hbb _)⟩
  · have hsg : sgB x c = false := by unfold sgB; simp [hk]
    rw [hsg]
    have hne : ((x.k : Int) != 1) = true := by simp; omega
    have HN := Lib.hid (fun w' (hb : Below w.heap.size w w') => (h.below hb))
    clear h hk hsg
    go_enter Tryz.func159, Tryz.ntmps159
    go_wp2_with (go_at_call 55; (with_reducible refine (H1.out).mono ?_); rintro e1 w1 ⟨rfl, hb1⟩; have hs1 := hb1.size)
    go_ret
    have hbb := fun o => hb1.alloc hs1 o
    exact ⟨rfl, HN.out _ (hbb _), Moves.of_below (hbb _)⟩

theorem beq_of_ne {a b : List UInt8} (h : a ≠ b) : (a == b) = false := by simpa using h
set_option maxHeartbeats 1000000 in
theorem kindOf_any (t : List UInt8) (w : World) : Calls Tryz.prog 127 #[.string ⟨t.toArray⟩] w fun e w' => e = .returned (.int .i64 (kindS t)) ∧ w = w' := by
  unfold kindS nullL falseL trueL
  by_cases h1 : t = [110, 117, 108, 108]
  · subst h1
    go_enter Tryz.func127, Tryz.ntmps127
    go_wp2_with fail
    go_ret
    exact ⟨rfl, rfl⟩
  · rw [if_neg h1]
    have e1 := beq_of_ne h1
    by_cases h2 : t = [102, 97, 108, 115, 101]
    · subst h2
      go_enter Tryz.func127, Tryz.ntmps127
      go_wp2_with fail
      go_ret
      exact ⟨rfl, rfl⟩
    · rw [if_neg h2]
      have e2 := beq_of_ne h2
      by_cases h3 : t = [116, 114, 117, 101]
      · subst h3
        go_enter Tryz.func127, Tryz.ntmps127
        go_wp2_with fail
        go_ret
        exact ⟨rfl, rfl⟩
      · rw [if_neg h3]
        have e3 := beq_of_ne h3
        by_cases h4 : t = [91]
        · subst h4
          go_enter Tryz.func127, Tryz.ntmps127
          go_wp2_with fail
          go_ret
          exact ⟨rfl, rfl⟩
        · rw [if_neg h4]
          have e4 := beq_of_ne h4
          by_cases h5 : t = [123]
          · subst h5
            go_enter Tryz.func127, Tryz.ntmps127
            go_wp2_with fail
            go_ret
            exact ⟨rfl, rfl⟩
          · rw [if_neg h5]
            have e5 := beq_of_ne h5
            go_enter Tryz.func127, Tryz.ntmps127
            go_wp2_with fail
            go_ret
            exact ⟨rfl, rfl⟩
/-- The value of what a token begins. -/
def bareV (k m e : Int) (t : List UInt8) : Value := .agg #[.int .i64 k, .int .i64 m, .int .i64 e, .string ⟨t.toArray⟩, .slice none 0 0, .slice none 0 0]
def begunV (x : Tok) : Value := bareV (begunS x).k (begunS x).m (begunS x).e (begunS x).t
set_option maxHeartbeats 1000000 in
theorem begun_any (x : Tok) (w : World) : Calls Tryz.prog 91 #[tokV x] w (Ret (begunV x) w) := by
  obtain ⟨K, T, M, E, Q⟩ := x
  unfold begunV begunS tokV
  simp only
  have hbb : ∀ o o', Below w.heap.size w ((w.alloc o).alloc o') := fun o o' => ((Below.refl _ _).alloc (Nat.le_refl _) _).alloc (by simp) _
  have HB := Lib.hid hbb
  clear hbb
  have hq := fun w => kindOf_any T w
  have HQ := Lib.hid hq
  clear hq
  by_cases h2 : K = 2
  · subst h2
    simp only [if_true, J.k, J.m, J.e, J.t]
    go_enter Tryz.func91, Tryz.ntmps91
    go_wp2_with fail
    exact bodyPost_ret (v := bareV 5 0 0 T) (by simp [bareV, results, Tryz.results91, go_sem]) rfl ⟨rfl, HB.out _ _⟩
  · rw [if_neg h2]
    have e2 : ((K : Int) == 2) = false := by simp; omega
    by_cases h3 : K = 3
    · subst h3
      simp only [if_true, J.k, J.m, J.e, J.t]
      go_enter Tryz.func91, Tryz.ntmps91
      go_wp2_with fail
      exact bodyPost_ret (v := bareV 4 M E []) (by simp [bareV, results, Tryz.results91, go_sem]) rfl ⟨rfl, HB.out _ _⟩
    · rw [if_neg h3]
      have e3 : ((K : Int) == 3) = false := by simp; omega
      by_cases h4 : K = 4 ∨ K = 1
      · rw [if_pos h4]
        simp only [J.k, J.m, J.e, J.t]
        generalize kindS T = R at *
        rcases h4 with rfl | rfl
        all_goals
          go_enter Tryz.func91, Tryz.ntmps91
          go_wp2_with (go_at_call 127; (with_reducible refine (HQ.out _).mono ?_); rintro e1 w1 ⟨rfl, rfl⟩)
          exact bodyPost_ret (v := bareV R 0 0 []) (by simp [bareV, results, Tryz.results91, go_sem]) rfl ⟨rfl, HB.out _ _⟩
      · rw [if_neg h4]
        have e4 : ((K : Int) == 4) = false := by simp; omega
        have e1 : ((K : Int) == 1) = false := by simp; omega
        simp only [j0, J.k, J.m, J.e, J.t]
        clear h2 h3 h4
        go_enter Tryz.func91, Tryz.ntmps91
        go_wp2_with fail
        exact bodyPost_ret (v := bareV 0 0 0 []) (by simp [bareV, results, Tryz.results91, go_sem]) rfl ⟨rfl, HB.out _ _⟩
end Go.Proofs.YtgfkpfppdoeifaaGreatDoor.Js
