import Derived.Test.YtignefglnpaedaaGreatDoorFt2
/- Raw values in memory, and the contract of Fit for all but arrays and objects. -/
set_option linter.unusedVariables false
set_option linter.unusedSimpArgs false
namespace Go.Proofs.YtignefglnpaedaaGreatDoor.Js
open Go.RowKit Lex
open Quo (pickS pickS_nonneg pickS_lt IntsAt textR)

/-- A slice of numbers: its form, its room, what it reads as. -/
def TxtAt (w : World) (v : Value) (t : List Int) : Prop := IntsAt w v t ∧ ∃ ao c, v = .slice ao t.length c ∧ t.length ≤ c ∧ t.length ≤ 9223372036854775807
/-- A raw value in memory, its items n deep. -/
def RAt (w : World) : Nat → Value → RT → Prop
  | 0, v, .mk k m e t is => ∃ vt ai ci, v = .agg #[.int .i64 k, .int .i64 m, .int .i64 e, vt, .slice ai is.length ci] ∧ i64B k ∧ i64B m ∧ i64B e ∧ TxtAt w vt t ∧ is.length ≤ 9223372036854775807
  | n + 1, v, .mk k m e t is => ∃ vt ai ci, v = .agg #[.int .i64 k, .int .i64 m, .int .i64 e, vt, .slice ai is.length ci] ∧ i64B k ∧ i64B m ∧ i64B e ∧ TxtAt w vt t ∧ is.length ≤ 9223372036854775807 ∧
      (0 < is.length → ∃ b off, ai = some ⟨b, off, none⟩ ∧ b < w.heap.size ∧ ∀ i, i < is.length → ∃ u, LiesAt w b (off + i * 5) u ∧ RAt w n u (is.getD i rt0))
theorem TxtAt.below {w w' : World} {v : Value} {t : List Int} (h : TxtAt w v t) (hb : Below w.heap.size w w') : TxtAt w' v t := ⟨h.1.below hb, h.2⟩
theorem RAt.zero {w : World} : ∀ {n : Nat} {v : Value} {r : RT}, RAt w n v r → RAt w 0 v r
  | 0, _, _, h => h
  | n + 1, v, .mk k m e t is, h => by
    obtain ⟨vt, ai, ci, h1, h2, h3, h4, h5, h6, _⟩ := h
    exact ⟨vt, ai, ci, h1, h2, h3, h4, h5, h6⟩
theorem RAt.below {w w' : World} (hb : Below w.heap.size w w') : ∀ {n : Nat} {v : Value} {r : RT}, RAt w n v r → RAt w' n v r
  | 0, v, .mk k m e t is, h => by
    obtain ⟨vt, ai, ci, h1, h2, h3, h4, h5, h6⟩ := h
    exact ⟨vt, ai, ci, h1, h2, h3, h4, h5.below hb, h6⟩
  | n + 1, v, .mk k m e t is, h => by
    obtain ⟨vt, ai, ci, h1, h2, h3, h4, h5, h6, h7⟩ := h
    refine ⟨vt, ai, ci, h1, h2, h3, h4, h5.below hb, h6, fun hp => ?_⟩
    obtain ⟨b, off, e1, e2, e3⟩ := h7 hp
    refine ⟨b, off, e1, Nat.lt_of_lt_of_le e2 hb.size, fun i hi => ?_⟩
    obtain ⟨u, q1, q2⟩ := e3 i hi
    exact ⟨u, q1.keep (hb.block b e2), RAt.below hb q2⟩
/-- The first n of a slice of numbers. -/
theorem TxtAt.take {w : World} {ao : Option Addr} {c : Nat} {t : List Int} (h : TxtAt w (.slice ao t.length c) t) (n : Nat) : IntsAt w (.slice ao (min ((t.length : Nat) : Int) (n : Int)).toNat c) (t.take n) := by
  rcases h.1 with ⟨a, cap, e, rfl⟩ | ⟨b, off, cap, e, h1, h2, h3, h4, h5⟩
  · refine .inl ⟨ao, c, ?_, by simp⟩
    rw [show (min ((([] : List Int).length : Nat) : Int) (n : Int)).toNat = 0 by simp; omega]
  · simp only [Value.slice.injEq, true_and] at e
    obtain ⟨rfl, rfl⟩ := e
    have hl : (t.take n).length = (min ((t.length : Nat) : Int) (n : Int)).toNat := by simp; omega
    by_cases h0 : n = 0
    · subst h0
      exact .inl ⟨_, _, by rw [show (min ((t.length : Nat) : Int) ((0 : Nat) : Int)).toNat = 0 by omega], by simp⟩
    · have hg : ∀ j, j < (t.take n).length → (t.take n).getD j 0 = t.getD j 0 := fun j hj => by
        simp only [List.getD_eq_getElem?_getD]
        rw [List.getElem?_take, if_pos (by simp at hj; omega)]
      refine .inr ⟨b, off, _, by rw [hl], by omega, by omega, h3, fun j hj => ?_, fun j hj => ?_⟩
      · rw [hg j hj]; exact h4 j (by simp at hj; omega)
      · rw [hg j hj]; exact h5 j (by simp at hj; omega)

/-- What Fit leaves. -/
def FRet (w : World) (n : Nat) (j : J) (e : Ending) (w' : World) : Prop :=
  ∃ k m e1 t an nn cn ai ni ci, e = .returned (.agg #[.int .i64 k, .int .i64 m, .int .i64 e1, .string t, .slice an nn cn, .slice ai ni ci]) ∧
    JAt (fun b => w.heap.size ≤ b) w' n (.agg #[.int .i64 k, .int .i64 m, .int .i64 e1, .string t, .slice an nn cn, .slice ai ni ci]) j ∧ Below w.heap.size w w'
def FitOk (n : Nat) : Prop := ∀ (w : World) (v : Value) (r : RT), RAt w n v r → Calls Tryz.prog 4 #[v, .int .i64 ((16 - n : Nat) : Int)] w (FRet w (n + 1) (fitJ n r))
theorem dfit_any (m e : Int) (w : World) (hm : i64B m) (he : i64B e) : Calls Tryz.prog 12 #[.int .i64 m, .int .i64 e] w (Ret (.agg #[.int .i64 (Dec.fitM m), .int .i64 (Dec.fitE m e)]) w) := Dec.fit_any m e w hm.1 hm.2 he.1 he.2
theorem text_of (v : Value) (zs : List Int) (w : World) (h : IntsAt w v zs) : Calls Tryz.prog 13 #[v] w (Ret (.string ⟨(Quo.flat (textR zs)).toArray⟩) w) := Quo.text_any v zs w h

theorem below3 (w : World) (o1 o2 o3 : Obj) : Below w.heap.size w (((w.alloc o1).alloc o2).alloc o3) := (((Below.refl _ _).alloc (Nat.le_refl _) _).alloc (by simp) _).alloc (by simp; omega) _
theorem below2 (w : World) (o1 o2 : Obj) : Below w.heap.size w ((w.alloc o1).alloc o2) := ((Below.refl _ _).alloc (Nat.le_refl _) _).alloc (by simp) _
set_option maxHeartbeats 4000000 in
set_option maxRecDepth 100000 in
/-- Kinds 1, 2, 3: a bare value. -/
theorem fit_kind (k m e D : Int) (vt : Value) (ai : Option Addr) (ni ci n : Nat) (w : World) (hk : i64B k) (h : pickS k 7 = 0 ∨ pickS k 7 = 1 ∨ pickS k 7 = 2) :
    Calls Tryz.prog 4 #[.agg #[.int .i64 k, .int .i64 m, .int .i64 e, vt, .slice ai ni ci], .int .i64 D] w (FRet w (n + 1) (.mk (1 + pickS k 7) 0 0 [] [] [])) := by
  have P1 := Lib.hid (fun w => pick_any k 7 w hk (by decide) (by decide))
  rcases h with h | h | h
  all_goals
    rw [h] at P1 ⊢
    clear h
    go_enter Tryz.func4, Tryz.ntmps4
    go_wp2_with (go_at_call 11; (with_reducible refine (P1.out _).mono ?_); rintro e1 w1 ⟨rfl, rfl⟩)
  · refine bodyPost_ret (v := .agg #[.int .i64 1, .int .i64 0, .int .i64 0, .string ⟨#[]⟩, .slice none 0 0, .slice none 0 0]) (by simp [results, Tryz.results4, go_sem, cell_alloc_old]) rfl ?_
    exact ⟨_, _, _, _, _, _, _, _, _, _, rfl, leaf_jat ⟨by decide, by decide⟩ ⟨by decide, by decide⟩ ⟨by decide, by decide⟩ (by unfold txtB; simp), below3 _ _ _ _⟩
  · refine bodyPost_ret (v := .agg #[.int .i64 2, .int .i64 0, .int .i64 0, .string ⟨#[]⟩, .slice none 0 0, .slice none 0 0]) (by simp [results, Tryz.results4, go_sem, cell_alloc_old]) rfl ?_
    exact ⟨_, _, _, _, _, _, _, _, _, _, rfl, leaf_jat ⟨by decide, by decide⟩ ⟨by decide, by decide⟩ ⟨by decide, by decide⟩ (by unfold txtB; simp), below3 _ _ _ _⟩
  · refine bodyPost_ret (v := .agg #[.int .i64 3, .int .i64 0, .int .i64 0, .string ⟨#[]⟩, .slice none 0 0, .slice none 0 0]) (by simp [results, Tryz.results4, go_sem, cell_alloc_old]) rfl ?_
    exact ⟨_, _, _, _, _, _, _, _, _, _, rfl, leaf_jat ⟨by decide, by decide⟩ ⟨by decide, by decide⟩ ⟨by decide, by decide⟩ (by unfold txtB; simp), below3 _ _ _ _⟩
theorem three_cells {w : World} {o1 : Obj} {C D : Array Value} {T : TypeId} {w1 : World} (hb : Below (((w.alloc o1).alloc (.cells C T)).alloc (.cells D T)).heap.size (((w.alloc o1).alloc (.cells C T)).alloc (.cells D T)) w1) :
    w1.heap[w.heap.size + 1]? = some (.cells C T (0, 0)) ∧ w1.heap[w.heap.size + 2]? = some (.cells D T (0, 0)) ∧ w.heap.size + 2 < w1.heap.size ∧ Below w.heap.size w w1 := by
  have hs := hb.size
  simp at hs
  have e1 : (((w.alloc o1).alloc (.cells C T)).alloc (.cells D T)).heap[w.heap.size + 1]? = some (.cells C T (0, 0)) := by
    rw [Below.heap_alloc _ _ _ (by simp)]
    simpa using heap_alloc_new (w.alloc o1) (.cells C T (0, 0))
  have e2 : (((w.alloc o1).alloc (.cells C T)).alloc (.cells D T)).heap[w.heap.size + 2]? = some (.cells D T (0, 0)) := by
    simpa using heap_alloc_new ((w.alloc o1).alloc (.cells C T)) (.cells D T (0, 0))
  exact ⟨by rw [hb.block _ (by simp)]; exact e1, by rw [hb.block _ (by simp)]; exact e2, by omega, (below3 w _ _ _).trans (hb.mono (by simp; omega))⟩
theorem below_setc {w w1 : World} {B b i : Nat} (h : Below B w w1) (hb : B ≤ b) (u : Value) : Below B w (w1.setCell ⟨b, i, none⟩ u) :=
  ⟨h.os, h.tape, h.output, by rw [size_set]; exact h.size, fun k hk => (Below.heap_setCell _ _ _ _ (by show k ≠ b; omega)).trans (h.block k hk)⟩
theorem fret_fin {w w1 : World} {n bres : Nat} {j : J} {k m e : Int} {t : ByteArray} {a a' : Option Addr} {nn c nn' c' : Nat} (hB : Below w.heap.size w w1) (h1 : w.heap.size ≤ bres)
    (hJ : JAt (fun b => w.heap.size ≤ b ∧ b ≠ bres) w1 n (.agg #[.int .i64 k, .int .i64 m, .int .i64 e, .string t, .slice a nn c, .slice a' nn' c']) j) (c0 c1 c2 c3 c4 c5 : Value) :
    FRet w n j (.returned (.agg #[.int .i64 k, .int .i64 m, .int .i64 e, .string t, .slice a nn c, .slice a' nn' c'])) (put6 w1 bres 0 c0 c1 c2 c3 c4 c5) := by
  have hsz := put6_size w1 bres 0 c0 c1 c2 c3 c4 c5
  exact ⟨_, _, _, _, _, _, _, _, _, _, rfl, hJ.keep (fun b hb _ => hb.1) (fun b hb _ => put6_block w1 bres 0 c0 c1 c2 c3 c4 c5 b hb.2) (by omega), below_put6' hB h1 _ _ _ _ _ _⟩
set_option maxHeartbeats 4000000 in
set_option maxRecDepth 100000 in
/-- Kind 4: a number. -/
theorem fit_num (k m e D : Int) (vt : Value) (ai : Option Addr) (ni ci n : Nat) (w : World) (hk : i64B k) (hm : i64B m) (he : i64B e) (h : pickS k 7 = 3) :
    Calls Tryz.prog 4 #[.agg #[.int .i64 k, .int .i64 m, .int .i64 e, vt, .slice ai ni ci], .int .i64 D] w (FRet w (n + 1) (.mk 4 (Dec.fitM m) (Dec.fitE m e) [] [] [])) := by
  have P1 := Lib.hid (fun w => pick_any k 7 w hk (by decide) (by decide))
  have F1 := Lib.hid (fun w => dfit_any m e w hm he)
  have hB := Dec.rightB_bounds (Dec.fit_right m e)
  rw [h] at P1
  clear h
  generalize Dec.fitM m = M at *
  generalize Dec.fitE m e = E at *
  obtain ⟨q1, q2, q3, q4⟩ := hB
  go_enter Tryz.func4, Tryz.ntmps4
  go_wp2_with (first
    | (go_at_call 11; (with_reducible refine (P1.out _).mono ?_); rintro e1 w1 ⟨rfl, rfl⟩)
    | (go_at_call 12; (with_reducible refine (F1.out _).mono ?_); rintro e1 w1 ⟨rfl, hb1⟩; obtain ⟨x1, x2, x3, hbw⟩ := three_cells hb1; obtain ⟨y0, y1, y2, y3, y4, y5⟩ := six_of x2; obtain ⟨z0, z1, z2, z3, z4, z5⟩ := six_of x1; have f1 := free_of x2 1; have f2 := free_of x2 2; have g0 := free_of x1 0; have g1 := free_of x1 1; have g2 := free_of x1 2; have g3 := free_of x1 3; have g4 := free_of x1 4; have g5 := free_of x1 5))
  refine bodyPost_ret (v := .agg #[.int .i64 4, .int .i64 M, .int .i64 E, .string ⟨#[]⟩, .slice none 0 0, .slice none 0 0]) (by simp [results, Tryz.results4, go_sem, z0, z1, z2, z3, z4, z5]) rfl ?_
  exact fret_fin (bres := w.heap.size + 1) (below_setc (below_setc hbw (by omega) _) (by omega) _) (by omega) (leaf_jat ⟨by decide, by decide⟩ ⟨by omega, by omega⟩ ⟨by omega, by omega⟩ (by unfold txtB; simp)) _ _ _ _ _ _
theorem textR_lenN (n : Nat) (zs : List Int) : (Quo.flat (textR (zs.take n))).length ≤ 800 := Quo.textR_len _
set_option maxHeartbeats 4000000 in
set_option maxRecDepth 100000 in
/-- Kind 5: a text. -/
theorem fit_text (k m e D : Int) (vt : Value) (t : List Int) (ai : Option Addr) (ni ci n : Nat) (w : World) (hk : i64B k) (ht : TxtAt w vt t) (h : pickS k 7 = 4) :
    Calls Tryz.prog 4 #[.agg #[.int .i64 k, .int .i64 m, .int .i64 e, vt, .slice ai ni ci], .int .i64 D] w (FRet w (n + 1) (.mk 5 0 0 (Quo.flat (textR (t.take 20))) [] [])) := by
  have P1 := Lib.hid (fun w => pick_any k 7 w hk (by decide) (by decide))
  rw [h] at P1
  clear h
  have hL := textR_lenN 20 t
  have ht' := ht
  obtain ⟨_, ao, c, rfl, hc, hl⟩ := ht'
  have T1 := Lib.hid (fun (w' : World) (hb : Below w.heap.size w w') => text_of _ _ w' ((ht.take 20).below hb))
  generalize Quo.flat (textR (t.take 20)) = X at *
  have HT := Lib.hid ht
  clear ht
  generalize t.length = tl at *
  rw [show ((20 : Nat) : Int) = 20 from rfl] at T1
  go_enter Tryz.func4, Tryz.ntmps4
  go_wp2_with (first
    | (go_at_call 11; (with_reducible refine (P1.out _).mono ?_); rintro e1 w1 ⟨rfl, rfl⟩)
    | (go_at_call 13; (with_reducible refine (T1.out _ (below3 _ _ _ _)).mono ?_); rintro e1 w1 ⟨rfl, hb1⟩; obtain ⟨x1, x2, x3, hbw⟩ := three_cells hb1; obtain ⟨y0, y1, y2, y3, y4, y5⟩ := six_of x2; obtain ⟨z0, z1, z2, z3, z4, z5⟩ := six_of x1; have f1 := free_of x2 3; have g0 := free_of x1 0; have g1 := free_of x1 1; have g2 := free_of x1 2; have g3 := free_of x1 3; have g4 := free_of x1 4; have g5 := free_of x1 5))
  refine bodyPost_ret (v := .agg #[.int .i64 5, .int .i64 0, .int .i64 0, .string ⟨X.toArray⟩, .slice none 0 0, .slice none 0 0]) (by simp [results, Tryz.results4, go_sem, z0, z1, z2, z3, z4, z5]) rfl ?_
  exact fret_fin (bres := w.heap.size + 1) (below_setc hbw (by omega) _) (by omega) (leaf_jat ⟨by decide, by decide⟩ ⟨by decide, by decide⟩ ⟨by decide, by decide⟩ (by unfold txtB; omega)) _ _ _ _ _ _
set_option maxHeartbeats 4000000 in
set_option maxRecDepth 100000 in
/-- Kinds 6 and 7 with no items to be read: the depth is 16, or there are none. -/
theorem fit_empty (k m e : Int) (vt : Value) (ai : Option Addr) (ni ci n : Nat) (w : World) (hk : i64B k) (hni : ni ≤ 9223372036854775807) (h : pickS k 7 = 5 ∨ pickS k 7 = 6) :
    Calls Tryz.prog 4 #[.agg #[.int .i64 k, .int .i64 m, .int .i64 e, vt, .slice ai ni ci], .int .i64 16] w (FRet w (n + 1) (.mk (1 + pickS k 7) 0 0 [] [] [])) := by
  have P1 := Lib.hid (fun w => pick_any k 7 w hk (by decide) (by decide))
  rcases h with h | h
  · rw [h] at P1 ⊢
    clear h
    by_cases h0 : ni = 0
    · subst h0
      go_enter Tryz.func4, Tryz.ntmps4
      go_wp2_with (go_at_call 11; (with_reducible refine (P1.out _).mono ?_); rintro e1 w1 ⟨rfl, rfl⟩)
      go_loopw [7] (fun i wr => i = .int .i64 0 ∧ wr = (((w.alloc (.cells #[.int .i64 k, .int .i64 m, .int .i64 e, vt, .slice ai 0 ci] 25)).alloc (.cells #[.int .i64 0, .int .i64 0, .int .i64 0, .string ⟨#[]⟩, .slice none 0 0, .slice none 0 0] 31)).alloc (.cells #[.int .i64 6, .int .i64 0, .int .i64 0, .string ⟨#[]⟩, .slice none 0 0, .slice none 0 0] 31))) (fun _ _ => 0)
      case atStart => exact ⟨rfl, rfl⟩
      case round =>
        obtain ⟨rfl, rfl⟩ := hrel
        go_wp2_with fail
        refine bodyPost_ret (v := .agg #[.int .i64 6, .int .i64 0, .int .i64 0, .string ⟨#[]⟩, .slice none 0 0, .slice none 0 0]) (by simp [results, Tryz.results4, go_sem, cell_alloc_old]) rfl ?_
        exact ⟨_, _, _, _, _, _, _, _, _, _, rfl, leaf_jat ⟨by decide, by decide⟩ ⟨by decide, by decide⟩ ⟨by decide, by decide⟩ (by unfold txtB; simp), below3 _ _ _ _⟩
    · have hp : (0 : Int) < (ni : Int) := by omega
      go_enter Tryz.func4, Tryz.ntmps4
      go_wp2_with (go_at_call 11; (with_reducible refine (P1.out _).mono ?_); rintro e1 w1 ⟨rfl, rfl⟩)
      go_loopw [7] (fun i wr => i = .int .i64 0 ∧ wr = (((w.alloc (.cells #[.int .i64 k, .int .i64 m, .int .i64 e, vt, .slice ai ni ci] 25)).alloc (.cells #[.int .i64 0, .int .i64 0, .int .i64 0, .string ⟨#[]⟩, .slice none 0 0, .slice none 0 0] 31)).alloc (.cells #[.int .i64 6, .int .i64 0, .int .i64 0, .string ⟨#[]⟩, .slice none 0 0, .slice none 0 0] 31))) (fun _ _ => 0)
      case atStart => exact ⟨rfl, rfl⟩
      case round =>
        obtain ⟨rfl, rfl⟩ := hrel
        go_wp2_with fail
        refine bodyPost_ret (v := .agg #[.int .i64 6, .int .i64 0, .int .i64 0, .string ⟨#[]⟩, .slice none 0 0, .slice none 0 0]) (by simp [results, Tryz.results4, go_sem, cell_alloc_old]) rfl ?_
        exact ⟨_, _, _, _, _, _, _, _, _, _, rfl, leaf_jat ⟨by decide, by decide⟩ ⟨by decide, by decide⟩ ⟨by decide, by decide⟩ (by unfold txtB; simp), below3 _ _ _ _⟩
  · rw [h] at P1 ⊢
    clear h
    by_cases h0 : ni = 0
    · subst h0
      go_enter Tryz.func4, Tryz.ntmps4
      go_wp2_with (go_at_call 11; (with_reducible refine (P1.out _).mono ?_); rintro e1 w1 ⟨rfl, rfl⟩)
      go_loopw [7] (fun i wr => i = .int .i64 0 ∧ wr = (((w.alloc (.cells #[.int .i64 k, .int .i64 m, .int .i64 e, vt, .slice ai 0 ci] 25)).alloc (.cells #[.int .i64 0, .int .i64 0, .int .i64 0, .string ⟨#[]⟩, .slice none 0 0, .slice none 0 0] 31)).alloc (.cells #[.int .i64 7, .int .i64 0, .int .i64 0, .string ⟨#[]⟩, .slice none 0 0, .slice none 0 0] 31))) (fun _ _ => 0)
      case atStart => exact ⟨rfl, rfl⟩
      case round =>
        obtain ⟨rfl, rfl⟩ := hrel
        go_wp2_with fail
        refine bodyPost_ret (v := .agg #[.int .i64 7, .int .i64 0, .int .i64 0, .string ⟨#[]⟩, .slice none 0 0, .slice none 0 0]) (by simp [results, Tryz.results4, go_sem, cell_alloc_old]) rfl ?_
        exact ⟨_, _, _, _, _, _, _, _, _, _, rfl, leaf_jat ⟨by decide, by decide⟩ ⟨by decide, by decide⟩ ⟨by decide, by decide⟩ (by unfold txtB; simp), below3 _ _ _ _⟩
    · have hp : (0 : Int) < (ni : Int) := by omega
      go_enter Tryz.func4, Tryz.ntmps4
      go_wp2_with (go_at_call 11; (with_reducible refine (P1.out _).mono ?_); rintro e1 w1 ⟨rfl, rfl⟩)
      go_loopw [7] (fun i wr => i = .int .i64 0 ∧ wr = (((w.alloc (.cells #[.int .i64 k, .int .i64 m, .int .i64 e, vt, .slice ai ni ci] 25)).alloc (.cells #[.int .i64 0, .int .i64 0, .int .i64 0, .string ⟨#[]⟩, .slice none 0 0, .slice none 0 0] 31)).alloc (.cells #[.int .i64 7, .int .i64 0, .int .i64 0, .string ⟨#[]⟩, .slice none 0 0, .slice none 0 0] 31))) (fun _ _ => 0)
      case atStart => exact ⟨rfl, rfl⟩
      case round =>
        obtain ⟨rfl, rfl⟩ := hrel
        go_wp2_with fail
        refine bodyPost_ret (v := .agg #[.int .i64 7, .int .i64 0, .int .i64 0, .string ⟨#[]⟩, .slice none 0 0, .slice none 0 0]) (by simp [results, Tryz.results4, go_sem, cell_alloc_old]) rfl ?_
        exact ⟨_, _, _, _, _, _, _, _, _, _, rfl, leaf_jat ⟨by decide, by decide⟩ ⟨by decide, by decide⟩ ⟨by decide, by decide⟩ (by unfold txtB; simp), below3 _ _ _ _⟩
end Go.Proofs.YtignefglnpaedaaGreatDoor.Js
