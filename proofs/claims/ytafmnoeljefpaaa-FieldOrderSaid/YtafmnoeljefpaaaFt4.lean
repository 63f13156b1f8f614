import Derived.Test.YtafmnoeljefpaaaRd9
import Derived.Test.YtafmnoeljefpaaaQuoB
/- Raw values: what Fit makes of them, and how they lie in memory. -/
set_option linter.unusedVariables false
set_option linter.unusedSimpArgs false
namespace Go.Proofs.Ytafmnoeljefpaaa.Js
open Go.RowKit Lex
open Quo (pickS pickS_nonneg pickS_lt IntsAt textR)

/-- A raw value. -/
inductive RT where
  | mk (k m e : Int) (t : List Int) (is : List RT)
def rt0 : RT := .mk 0 0 0 [] []
def RT.txt : RT → List Int
  | .mk _ _ _ t _ => t
/-- A raw value's name. -/
def nameR (r : RT) : List UInt8 := Quo.flat (textR (r.txt.take 8))
/-- Items, and in objects their names, each once. -/
def fitL (f : RT → J) (ob : Bool) : List RT → List (List UInt8) → List J → List (List UInt8) × List J
  | [], ns, is => (ns, is)
  | y :: l, ns, is => if ob = true ∧ nameR y ∈ ns then fitL f ob l ns is else fitL f ob l (if ob = true then ns ++ [nameR y] else ns) (is ++ [f y])
def fitJ : Nat → RT → J
  | 0, .mk k m e t is =>
    if 1 + pickS k 7 = 4 then .mk 4 (Dec.fitM m) (Dec.fitE m e) [] [] [] else if 1 + pickS k 7 = 5 then .mk 5 0 0 (Quo.flat (textR (t.take 20))) [] [] else .mk (1 + pickS k 7) 0 0 [] [] []
  | n + 1, .mk k m e t is =>
    if 1 + pickS k 7 = 4 then .mk 4 (Dec.fitM m) (Dec.fitE m e) [] [] [] else if 1 + pickS k 7 = 5 then .mk 5 0 0 (Quo.flat (textR (t.take 20))) [] []
    else if 1 + pickS k 7 = 6 ∨ 1 + pickS k 7 = 7 then .mk (1 + pickS k 7) 0 0 [] (fitL (fitJ n) (decide (1 + pickS k 7 = 7)) (is.take 12) [] []).1 (fitL (fitJ n) (decide (1 + pickS k 7 = 7)) (is.take 12) [] []).2
    else .mk (1 + pickS k 7) 0 0 [] [] []

/-- What holds of the list that Fit makes. -/
theorem fitL_all (f : RT → J) (ob : Bool) (P : J → Prop) : ∀ l ns is, (∀ y ∈ l, P (f y)) → (∀ i ∈ is, P i) → ∀ i ∈ (fitL f ob l ns is).2, P i
  | [], ns, is, _, h, i, hi => h i hi
  | y :: l, ns, is, h1, h2, i, hi => by
    rw [fitL] at hi
    split at hi
    · exact fitL_all f ob P l ns is (fun z hz => h1 z (List.mem_cons_of_mem _ hz)) h2 i hi
    · refine fitL_all f ob P l _ _ (fun z hz => h1 z (List.mem_cons_of_mem _ hz)) ?_ i hi
      intro x hx
      rcases List.mem_append.1 hx with hx | hx
      · exact h2 x hx
      · rw [List.mem_singleton.1 hx]; exact h1 y (List.mem_cons_self ..)
theorem fitL_names (f : RT → J) : ∀ l ns is, ns.Nodup → ns.length = is.length → (fitL f true l ns is).1.Nodup ∧ (fitL f true l ns is).1.length = (fitL f true l ns is).2.length
  | [], ns, is, h1, h2 => ⟨h1, h2⟩
  | y :: l, ns, is, h1, h2 => by
    rw [fitL]
    split
    · exact fitL_names f l ns is h1 h2
    · rename_i h
      rw [if_pos rfl]
      refine fitL_names f l _ _ ?_ (by simp; omega)
      refine List.nodup_append.2 ⟨h1, by simp, ?_⟩
      intro a ha b hb
      rw [List.mem_singleton.1 hb]
      rintro rfl
      exact h ⟨rfl, ha⟩
theorem fitL_none (f : RT → J) : ∀ l ns is, (fitL f false l ns is).1 = ns
  | [], ns, is => rfl
  | y :: l, ns, is => by
    rw [fitL, if_neg (by simp), if_neg (by decide)]
    exact fitL_none f l ns _
theorem fitL_namesP (f : RT → J) (P : List UInt8 → Prop) (hP : ∀ y, P (nameR y)) (ob : Bool) : ∀ l ns is, (∀ x ∈ ns, P x) → ∀ x ∈ (fitL f ob l ns is).1, P x
  | [], ns, is, h, x, hx => h x hx
  | y :: l, ns, is, h, x, hx => by
    rw [fitL] at hx
    split at hx
    · exact fitL_namesP f P hP ob l ns is h x hx
    · refine fitL_namesP f P hP ob l _ _ ?_ x hx
      intro z hz
      split at hz
      · rcases List.mem_append.1 hz with hz | hz
        · exact h z hz
        · rw [List.mem_singleton.1 hz]; exact hP y
      · exact h z hz
end Go.Proofs.Ytafmnoeljefpaaa.Js

/- Raw values in memory, and the contract of Fit for all but arrays and objects. -/
set_option linter.unusedVariables false
set_option linter.unusedSimpArgs false
namespace Go.Proofs.Ytafmnoeljefpaaa.Js
open Go.RowKit Lex
open Quo (pickS pickS_nonneg pickS_lt IntsAt textR)

/-- A slice of numbers: its form, its room, what it reads as. -/
def TxtAt (w : World) (v : Value) (t : List Int) : Prop := IntsAt w v t ∧ ∃ ao c, v = .slice ao t.length c ∧ t.length ≤ c ∧ t.length ≤ 9223372036854775807
/-- A raw value in memory, its items n deep. -/
def RAt (w : World) : Nat → Value → RT → Prop
  | 0, v, .mk k m e t is => ∃ vt ai ci, v = .agg #[.int .i64 k, .int .i64 m, .int .i64 e, vt, .slice ai is.length ci] ∧ i64B k ∧ i64B m ∧ i64B e ∧ TxtAt w vt t ∧ is.length ≤ 9223372036854775807
  | n + 1, v, .mk k m e t is => ∃ vt ai ci, v = .agg #[.int .i64 k, .int .i64 m, .int .i64 e, vt, .slice ai is.length ci] ∧ i64B k ∧ i64B m ∧ i64B e ∧ TxtAt w vt t ∧ is.length ≤ 9223372036854775807 ∧
      (0 < is.length → ∃ b off, ai = some ⟨b, off, none⟩ ∧ b < w.heap.size ∧ ∀ i, i < is.length → ∃ u, LiesAt w b (off + i * 5) u ∧ RAt w n u (is.getD i rt0))
theorem TxtAt.below {w w' : World} {v : Value} {t : List Int} (h : TxtAt w v t) (hb : Below w.heap.size w w') : TxtAt w' v t := ⟨h.1.below hb, h.2⟩
theorem RAt.zero {w : World} : ∀ {n : Nat} {v : Value} {r : RT}, RAt w n v r → RAt w 0 v r
  | 0, _, _, h => h
  | n + 1, v, .mk k m e t is, h => by
    obtain ⟨vt, ai, ci, h1, h2, h3, h4, h5, h6, _⟩ := h
    exact ⟨vt, ai, ci, h1, h2, h3, h4, h5, h6⟩
theorem RAt.below {w w' : World} (hb : Below w.heap.size w w') : ∀ {n : Nat} {v : Value} {r : RT}, RAt w n v r → RAt w' n v r
  | 0, v, .mk k m e t is, h => by
    obtain ⟨vt, ai, ci, h1, h2, h3, h4, h5, h6⟩ := h
    exact ⟨vt, ai, ci, h1, h2, h3, h4, h5.below hb, h6⟩
  | n + 1, v, .mk k m e t is, h => by
    obtain ⟨vt, ai, ci, h1, h2, h3, h4, h5, h6, h7⟩ := h
    refine ⟨vt, ai, ci, h1, h2, h3, h4, h5.below hb, h6, fun hp => ?_⟩
    obtain ⟨b, off, e1, e2, e3⟩ := h7 hp
    refine ⟨b, off, e1, Nat.lt_of_lt_of_le e2 hb.size, fun i hi => ?_⟩
    obtain ⟨u, q1, q2⟩ := e3 i hi
    exact ⟨u, q1.keep (hb.block b e2), RAt.below hb q2⟩
/-- The first n of a slice of numbers. -/
theorem TxtAt.take {w : World} {ao : Option Addr} {c : Nat} {t : List Int} (h : TxtAt w (.slice ao t.length c) t) (n : Nat) : IntsAt w (.slice ao (min ((t.length : Nat) : Int) (n : Int)).toNat c) (t.take n) := by
  rcases h.1 with ⟨a, cap, e, rfl⟩ | ⟨b, off, cap, e, h1, h2, h3, h4, h5⟩
  · refine .inl ⟨ao, c, ?_, by simp⟩
    rw [show (min ((([] : List Int).length : Nat) : Int) (n : Int)).toNat = 0 by simp; omega]
  · simp only [Value.slice.injEq, true_and] at e
    obtain ⟨rfl, rfl⟩ := e
    have hl : (t.take n).length = (min ((t.length : Nat) : Int) (n : Int)).toNat := by simp; omega
    by_cases h0 : n = 0
    · subst h0
      exact .inl ⟨_, _, by rw [show (min ((t.length : Nat) : Int) ((0 : Nat) : Int)).toNat = 0 by omega], by simp⟩
    · have hg : ∀ j, j < (t.take n).length → (t.take n).getD j 0 = t.getD j 0 := fun j hj => by
        simp only [List.getD_eq_getElem?_getD]
        rw [List.getElem?_take, if_pos (by simp at hj; omega)]
      refine .inr ⟨b, off, _, by rw [hl], by omega, by omega, h3, fun j hj => ?_, fun j hj => ?_⟩
      · rw [hg j hj]; exact h4 j (by simp at hj; omega)
      · rw [hg j hj]; exact h5 j (by simp at hj; omega)

/-- What Fit leaves. -/
def FRet (w : World) (n : Nat) (j : J) (e : Ending) (w' : World) : Prop :=
  ∃ k m e1 t an nn cn ai ni ci, e = .returned (.agg #[.int .i64 k, .int .i64 m, .int .i64 e1, .string t, .slice an nn cn, .slice ai ni ci]) ∧
    JAt (fun b => w.heap.size ≤ b) w' n (.agg #[.int .i64 k, .int .i64 m, .int .i64 e1, .string t, .slice an nn cn, .slice ai ni ci]) j ∧ Below w.heap.size w w'
def FitOk (n : Nat) : Prop := ∀ (w : World) (v : Value) (r : RT), RAt w n v r → Calls Try.prog 5 #[v, .int .i64 ((16 - n : Nat) : Int)] w (FRet w (n + 1) (fitJ n r))
theorem dfit_any (m e : Int) (w : World) (hm : i64B m) (he : i64B e) : Calls Try.prog 14 #[.int .i64 m, .int .i64 e] w (Ret (.agg #[.int .i64 (Dec.fitM m), .int .i64 (Dec.fitE m e)]) w) := Dec.fit_any m e w hm.1 hm.2 he.1 he.2
theorem text_of (v : Value) (zs : List Int) (w : World) (h : IntsAt w v zs) : Calls Try.prog 15 #[v] w (Ret (.string ⟨(Quo.flat (textR zs)).toArray⟩) w) := Quo.text_any v zs w h

theorem below3 (w : World) (o1 o2 o3 : Obj) : Below w.heap.size w (((w.alloc o1).alloc o2).alloc o3) := (((Below.refl _ _).alloc (Nat.le_refl _) _).alloc (by simp) _).alloc (by simp; omega) _
theorem below2 (w : World) (o1 o2 : Obj) : Below w.heap.size w ((w.alloc o1).alloc o2) := ((Below.refl _ _).alloc (Nat.le_refl _) _).alloc (by simp) _
set_option maxHeartbeats 4000000 in
set_option maxRecDepth 100000 in
/-- Kinds 1, 2, 3: a bare value. -/
theorem fit_kind (k m e D : Int) (vt : Value) (ai : Option Addr) (ni ci n : Nat) (w : World) (hk : i64B k) (h : pickS k 7 = 0 ∨ pickS k 7 = 1 ∨ pickS k 7 = 2) :
    Calls Try.prog 5 #[.agg #[.int .i64 k, .int .i64 m, .int .i64 e, vt, .slice ai ni ci], .int .i64 D] w (FRet w (n + 1) (.mk (1 + pickS k 7) 0 0 [] [] [])) := by
  have P1 := Lib.hid (fun w => pick_any k 7 w hk (by decide) (by decide))
  rcases h with h | h | h
  all_goals
    rw [h] at P1 ⊢
    clear h
    go_enter Try.func5, Try.ntmps5
    go_wp2_with (go_at_call 13; (with_reducible refine (P1.out _).mono ?_); rintro e1 w1 ⟨rfl, rfl⟩)
  · refine bodyPost_ret (v := .agg #[.int .i64 1, .int .i64 0, .int .i64 0, .string ⟨#[]⟩, .slice none 0 0, .slice none 0 0]) (by simp [results, Try.results5, go_sem, cell_alloc_old]) rfl ?_
    exact ⟨_, _, _, _, _, _, _, _, _, _, rfl, leaf_jat ⟨by decide, by decide⟩ ⟨by decide, by decide⟩ ⟨by decide, by decide⟩ (by unfold txtB; simp), below3 _ _ _ _⟩
  · refine bodyPost_ret (v := .agg #[.int .i64 2, .int .i64 0, .int .i64 0, .string ⟨#[]⟩, .slice none 0 0, .slice none 0 0]) (by simp [results, Try.results5, go_sem, cell_alloc_old]) rfl ?_
    exact ⟨_, _, _, _, _, _, _, _, _, _, rfl, leaf_jat ⟨by decide, by decide⟩ ⟨by decide, by decide⟩ ⟨by decide, by decide⟩ (by unfold txtB; simp), below3 _ _ _ _⟩
  · refine bodyPost_ret (v := .agg #[.int .i64 3, .int .i64 0, .int .i64 0, .string ⟨#[]⟩, .slice none 0 0, .slice none 0 0]) (by simp [results, Try.results5, go_sem, cell_alloc_old]) rfl ?_
    exact ⟨_, _, _, _, _, _, _, _, _, _, rfl, leaf_jat ⟨by decide, by decide⟩ ⟨by decide, by decide⟩ ⟨by decide, by decide⟩ (by unfold txtB; simp), below3 _ _ _ _⟩
theorem three_cells {w : World} {o1 : Obj} {C D : Array Value} {T : TypeId} {w1 : World} (hb : Below (((w.alloc o1).alloc (.cells C T)).alloc (.cells D T)).heap.size (((w.alloc o1).alloc (.cells C T)).alloc (.cells D T)) w1) :
    w1.heap[w.heap.size + 1]? = some (.cells C T (0, 0)) ∧ w1.heap[w.heap.size + 2]? = some (.cells D T (0, 0)) ∧ w.heap.size + 2 < w1.heap.size ∧ Below w.heap.size w w1 := by
  have hs := hb.size
  simp at hs
  have e1 : (((w.alloc o1).alloc (.cells C T)).alloc (.cells D T)).heap[w.heap.size + 1]? = some (.cells C T (0, 0)) := by
    rw [Below.heap_alloc _ _ _ (by simp)]
    simpa using heap_alloc_new (w.alloc o1) (.cells C T (0, 0))
  have e2 : (((w.alloc o1).alloc (.cells C T)).alloc (.cells D T)).heap[w.heap.size + 2]? = some (.cells D T (0, 0)) := by
    simpa using heap_alloc_new ((w.alloc o1).alloc (.cells C T)) (.cells D T (0, 0))
  exact ⟨by rw [hb.block _ (by simp)]; exact e1, by rw [hb.block _ (by simp)]; exact e2, by omega, (below3 w _ _ _).trans (hb.mono (by simp; omega))⟩
theorem below_setc {w w1 : World} {B b i : Nat} (h : Below B w w1) (hb : B ≤ b) (u : Value) : Below B w (w1.setCell ⟨b, i, none⟩ u) :=
  ⟨h.os, h.tape, h.output, by rw [size_set]; exact h.size, fun k hk => (Below.heap_setCell _ _ _ _ (by show k ≠ b; omega)).trans (h.block k hk)⟩
theorem fret_fin {w w1 : World} {n bres : Nat} {j : J} {k m e : Int} {t : ByteArray} {a a' : Option Addr} {nn c nn' c' : Nat} (hB : Below w.heap.size w w1) (h1 : w.heap.size ≤ bres)
    (hJ : JAt (fun b => w.heap.size ≤ b ∧ b ≠ bres) w1 n (.agg #[.int .i64 k, .int .i64 m, .int .i64 e, .string t, .slice a nn c, .slice a' nn' c']) j) (c0 c1 c2 c3 c4 c5 : Value) :
    FRet w n j (.returned (.agg #[.int .i64 k, .int .i64 m, .int .i64 e, .string t, .slice a nn c, .slice a' nn' c'])) (put6 w1 bres 0 c0 c1 c2 c3 c4 c5) := by
  have hsz := put6_size w1 bres 0 c0 c1 c2 c3 c4 c5
  exact ⟨_, _, _, _, _, _, _, _, _, _, rfl, hJ.keep (fun b hb _ => hb.1) (fun b hb _ => put6_block w1 bres 0 c0 c1 c2 c3 c4 c5 b hb.2) (by omega), below_put6' hB h1 _ _ _ _ _ _⟩
set_option maxHeartbeats 4000000 in
set_option maxRecDepth 100000 in
/-- Kind 4: a number. -/
theorem fit_num (k m e D : Int) (vt : Value) (ai : Option Addr) (ni ci n : Nat) (w : World) (hk : i64B k) (hm : i64B m) (he : i64B e) (h : pickS k 7 = 3) :
    Calls Try.prog 5 #[.agg #[.int .i64 k, .int .i64 m, .int .i64 e, vt, .slice ai ni ci], .int .i64 D] w (FRet w (n + 1) (.mk 4 (Dec.fitM m) (Dec.fitE m e) [] [] [])) := by
  have P1 := Lib.hid (fun w => pick_any k 7 w hk (by decide) (by decide))
  have F1 := Lib.hid (fun w => dfit_any m e w hm he)
  have hB := Dec.rightB_bounds (Dec.fit_right m e)
  rw [h] at P1
  clear h
  generalize Dec.fitM m = M at *
  generalize Dec.fitE m e = E at *
  obtain ⟨q1, q2, q3, q4⟩ := hB
  go_enter Try.func5, Try.ntmps5
  go_wp2_with (first
    | (go_at_call 13; (with_reducible refine (P1.out _).mono ?_); rintro e1 w1 ⟨rfl, rfl⟩)
    | (go_at_call 14; (with_reducible refine (F1.out _).mono ?_); rintro e1 w1 ⟨rfl, hb1⟩; obtain ⟨x1, x2, x3, hbw⟩ := three_cells hb1; obtain ⟨y0, y1, y2, y3, y4, y5⟩ := six_of x2; obtain ⟨z0, z1, z2, z3, z4, z5⟩ := six_of x1; have f1 := free_of x2 1; have f2 := free_of x2 2; have g0 := free_of x1 0; have g1 := free_of x1 1; have g2 := free_of x1 2; have g3 := free_of x1 3; have g4 := free_of x1 4; have g5 := free_of x1 5))
  refine bodyPost_ret (v := .agg #[.int .i64 4, .int .i64 M, .int .i64 E, .string ⟨#[]⟩, .slice none 0 0, .slice none 0 0]) (by simp [results, Try.results5, go_sem, z0, z1, z2, z3, z4, z5]) rfl ?_
  exact fret_fin (bres := w.heap.size + 1) (below_setc (below_setc hbw (by omega) _) (by omega) _) (by omega) (leaf_jat ⟨by decide, by decide⟩ ⟨by omega, by omega⟩ ⟨by omega, by omega⟩ (by unfold txtB; simp)) _ _ _ _ _ _
theorem textR_lenN (n : Nat) (zs : List Int) : (Quo.flat (textR (zs.take n))).length ≤ 800 := Quo.textR_len _
set_option maxHeartbeats 4000000 in
set_option maxRecDepth 100000 in
/-- Kind 5: a text. -/
theorem fit_text (k m e D : Int) (vt : Value) (t : List Int) (ai : Option Addr) (ni ci n : Nat) (w : World) (hk : i64B k) (ht : TxtAt w vt t) (h : pickS k 7 = 4) :
    Calls Try.prog 5 #[.agg #[.int .i64 k, .int .i64 m, .int .i64 e, vt, .slice ai ni ci], .int .i64 D] w (FRet w (n + 1) (.mk 5 0 0 (Quo.flat (textR (t.take 20))) [] [])) := by
  have P1 := Lib.hid (fun w => pick_any k 7 w hk (by decide) (by decide))
  rw [h] at P1
  clear h
  have hL := textR_lenN 20 t
  have ht' := ht
  obtain ⟨_, ao, c, rfl, hc, hl⟩ := ht'
  have T1 := Lib.hid (fun (w' : World) (hb : Below w.heap.size w w') => text_of _ _ w' ((ht.take 20).below hb))
  generalize Quo.flat (textR (t.take 20)) = X at *
  have HT := Lib.hid ht
  clear ht
  generalize t.length = tl at *
  rw [show ((20 : Nat) : Int) = 20 from rfl] at T1
  go_enter Try.func5, Try.ntmps5
  go_wp2_with (first
    | (go_at_call 13; (with_reducible refine (P1.out _).mono ?_); rintro e1 w1 ⟨rfl, rfl⟩)
    | (go_at_call 15; (with_reducible refine (T1.out _ (below3 _ _ _ _)).mono ?_); rintro e1 w1 ⟨rfl, hb1⟩; obtain ⟨x1, x2, x3, hbw⟩ := three_cells hb1; obtain ⟨y0, y1, y2, y3, y4, y5⟩ := six_of x2; obtain ⟨z0, z1, z2, z3, z4, z5⟩ := six_of x1; have f1 := free_of x2 3; have g0 := free_of x1 0; have g1 := free_of x1 1; have g2 := free_of x1 2; have g3 := free_of x1 3; have g4 := free_of x1 4; have g5 := free_of x1 5))
  refine bodyPost_ret (v := .agg #[.int .i64 5, .int .i64 0, .int .i64 0, .string ⟨X.toArray⟩, .slice none 0 0, .slice none 0 0]) (by simp [results, Try.results5, go_sem, z0, z1, z2, z3, z4, z5]) rfl ?_
  exact fret_fin (bres := w.heap.size + 1) (below_setc hbw (by omega) _) (by omega) (leaf_jat ⟨by decide, by decide⟩ ⟨by decide, by decide⟩ ⟨by decide, by decide⟩ (by unfold txtB; omega)) _ _ _ _ _ _
set_option maxHeartbeats 4000000 in
set_option maxRecDepth 100000 in
/-- Kinds 6 and 7 with no items to be read: the depth is 16, or there are none. -/
theorem fit_empty (k m e : Int) (vt : Value) (ai : Option Addr) (ni ci n : Nat) (w : World) (hk : i64B k) (hni : ni ≤ 9223372036854775807) (h : pickS k 7 = 5 ∨ pickS k 7 = 6) :
    Calls Try.prog 5 #[.agg #[.int .i64 k, .int .i64 m, .int .i64 e, vt, .slice ai ni ci], .int .i64 16] w (FRet w (n + 1) (.mk (1 + pickS k 7) 0 0 [] [] [])) := by
  have P1 := Lib.hid (fun w => pick_any k 7 w hk (by decide) (by decide))
  rcases h with h | h
  · rw [h] at P1 ⊢
    clear h
    by_cases h0 : ni = 0
    · subst h0
      go_enter Try.func5, Try.ntmps5
      go_wp2_with (go_at_call 13; (with_reducible refine (P1.out _).mono ?_); rintro e1 w1 ⟨rfl, rfl⟩)
      go_loopw [7] (fun i wr => i = .int .i64 0 ∧ wr = (((w.alloc (.cells #[.int .i64 k, .int .i64 m, .int .i64 e, vt, .slice ai 0 ci] 26)).alloc (.cells #[.int .i64 0, .int .i64 0, .int .i64 0, .string ⟨#[]⟩, .slice none 0 0, .slice none 0 0] 35)).alloc (.cells #[.int .i64 6, .int .i64 0, .int .i64 0, .string ⟨#[]⟩, .slice none 0 0, .slice none 0 0] 35))) (fun _ _ => 0)
      case atStart => exact ⟨rfl, rfl⟩
      case round =>
        obtain ⟨rfl, rfl⟩ := hrel
        go_wp2_with fail
        refine bodyPost_ret (v := .agg #[.int .i64 6, .int .i64 0, .int .i64 0, .string ⟨#[]⟩, .slice none 0 0, .slice none 0 0]) (by simp [results, Try.results5, go_sem, cell_alloc_old]) rfl ?_
        exact ⟨_, _, _, _, _, _, _, _, _, _, rfl, leaf_jat ⟨by decide, by decide⟩ ⟨by decide, by decide⟩ ⟨by decide, by decide⟩ (by unfold txtB; simp), below3 _ _ _ _⟩
    · have hp : (0 : Int) < (ni : Int) := by omega
      go_enter Try.func5, Try.ntmps5
      go_wp2_with (go_at_call 13; (with_reducible refine (P1.out _).mono ?_); rintro e1 w1 ⟨rfl, rfl⟩)
      go_loopw [7] (fun i wr => i = .int .i64 0 ∧ wr = (((w.alloc (.cells #[.int .i64 k, .int .i64 m, .int .i64 e, vt, .slice ai ni ci] 26)).alloc (.cells #[.int .i64 0, .int .i64 0, .int .i64 0, .string ⟨#[]⟩, .slice none 0 0, .slice none 0 0] 35)).alloc (.cells #[.int .i64 6, .int .i64 0, .int .i64 0, .string ⟨#[]⟩, .slice none 0 0, .slice none 0 0] 35))) (fun _ _ => 0)
      case atStart => exact ⟨rfl, rfl⟩
      case round =>
        obtain ⟨rfl, rfl⟩ := hrel
        go_wp2_with fail
        refine bodyPost_ret (v := .agg #[.int .i64 6, .int .i64 0, .int .i64 0, .string ⟨#[]⟩, .slice none 0 0, .slice none 0 0]) (by simp [results, Try.results5, go_sem, cell_alloc_old]) rfl ?_
        exact ⟨_, _, _, _, _, _, _, _, _, _, rfl, leaf_jat ⟨by decide, by decide⟩ ⟨by decide, by decide⟩ ⟨by decide, by decide⟩ (by unfold txtB; simp), below3 _ _ _ _⟩
  · rw [h] at P1 ⊢
    clear h
    by_cases h0 : ni = 0
    · subst h0
      go_enter Try.func5, Try.ntmps5
      go_wp2_with (go_at_call 13; (with_reducible refine (P1.out _).mono ?_); rintro e1 w1 ⟨rfl, rfl⟩)
      go_loopw [7] (fun i wr => i = .int .i64 0 ∧ wr = (((w.alloc (.cells #[.int .i64 k, .int .i64 m, .int .i64 e, vt, .slice ai 0 ci] 26)).alloc (.cells #[.int .i64 0, .int .i64 0, .int .i64 0, .string ⟨#[]⟩, .slice none 0 0, .slice none 0 0] 35)).alloc (.cells #[.int .i64 7, .int .i64 0, .int .i64 0, .string ⟨#[]⟩, .slice none 0 0, .slice none 0 0] 35))) (fun _ _ => 0)
      case atStart => exact ⟨rfl, rfl⟩
      case round =>
        obtain ⟨rfl, rfl⟩ := hrel
        go_wp2_with fail
        refine bodyPost_ret (v := .agg #[.int .i64 7, .int .i64 0, .int .i64 0, .string ⟨#[]⟩, .slice none 0 0, .slice none 0 0]) (by simp [results, Try.results5, go_sem, cell_alloc_old]) rfl ?_
        exact ⟨_, _, _, _, _, _, _, _, _, _, rfl, leaf_jat ⟨by decide, by decide⟩ ⟨by decide, by decide⟩ ⟨by decide, by decide⟩ (by unfold txtB; simp), below3 _ _ _ _⟩
    · have hp : (0 : Int) < (ni : Int) := by omega
      go_enter Try.func5, Try.ntmps5
      go_wp2_with (go_at_call 13; (with_reducible refine (P1.out _).mono ?_); rintro e1 w1 ⟨rfl, rfl⟩)
      go_loopw [7] (fun i wr => i = .int .i64 0 ∧ wr = (((w.alloc (.cells #[.int .i64 k, .int .i64 m, .int .i64 e, vt, .slice ai ni ci] 26)).alloc (.cells #[.int .i64 0, .int .i64 0, .int .i64 0, .string ⟨#[]⟩, .slice none 0 0, .slice none 0 0] 35)).alloc (.cells #[.int .i64 7, .int .i64 0, .int .i64 0, .string ⟨#[]⟩, .slice none 0 0, .slice none 0 0] 35))) (fun _ _ => 0)
      case atStart => exact ⟨rfl, rfl⟩
      case round =>
        obtain ⟨rfl, rfl⟩ := hrel
        go_wp2_with fail
        refine bodyPost_ret (v := .agg #[.int .i64 7, .int .i64 0, .int .i64 0, .string ⟨#[]⟩, .slice none 0 0, .slice none 0 0]) (by simp [results, Try.results5, go_sem, cell_alloc_old]) rfl ?_
        exact ⟨_, _, _, _, _, _, _, _, _, _, rfl, leaf_jat ⟨by decide, by decide⟩ ⟨by decide, by decide⟩ ⟨by decide, by decide⟩ (by unfold txtB; simp), below3 _ _ _ _⟩
end Go.Proofs.Ytafmnoeljefpaaa.Js

/- Fit's loop: what holds between its rounds. -/
set_option linter.unusedVariables false
set_option linter.unusedSimpArgs false
namespace Go.Proofs.Ytafmnoeljefpaaa.Js
open Go.RowKit Lex
open Quo (pickS pickS_nonneg pickS_lt IntsAt textR)

theorem chg_of {B : Nat} {w w' : World} (h : Below B w w') (hB : w.heap.size ≤ B) : Chg (fun _ => False) w w' := ⟨h.os, h.tape, h.output, h.size, fun b hb _ => h.block b (by omega)⟩
theorem Own2.below {base bv n : Nat} {k : Int} {nv iv : Value} {ns : List (List UInt8)} {vs : List Value} {acc : List J} {w w' : World} (h : Own2 base bv n k nv iv ns vs acc w) {B : Nat} (hb : Below B w w') (hB : w.heap.size ≤ B) : Own2 base bv n k nv iv ns vs acc w' :=
  h.chg (chg_of hb hB) (fun _ _ h => h) (fun h => h)
section
variable {base bv n : Nat} {k : Int} {nv iv : Value} {ns : List (List UInt8)} {vs : List Value} {acc : List J} {w1 wS w2 : World} {g cp : Nat}
/-- What an append of an item and its store leave alone. -/
theorem item_frame (hgrow : wS.grownBy w2 iv.ownBlock) (hBS : Below w1.heap.size w1 wS) (u : Value) :
    (∀ b, b < w1.heap.size → some b ≠ iv.ownBlock → b ≠ bv → (w2.setCell ⟨bv, 5, none⟩ u).heap[b]? = w1.heap[b]?) ∧ w1.heap.size ≤ (w2.setCell ⟨bv, 5, none⟩ u).heap.size ∧ (w2.setCell ⟨bv, 5, none⟩ u).os = w1.os ∧ (w2.setCell ⟨bv, 5, none⟩ u).tape = w1.tape ∧ (w2.setCell ⟨bv, 5, none⟩ u).output = w1.output := by
  have hs := hgrow.size
  have hsS := hBS.size
  refine ⟨fun b hb h1 h2 => ?_, ?_, hgrow.os.trans hBS.os, hgrow.tape.trans hBS.tape, hgrow.output.trans hBS.output⟩
  · rw [Below.heap_setCell _ _ _ _ h2, hgrow.block b (by omega) h1, hBS.block b hb]
  · simp only [World.setCell, Array.size_modify]; omega
/-- An item more, appended as it is. -/
theorem step_item (hO : Own2 base bv n k nv iv ns vs acc w1) (hgrow : wS.grownBy w2 iv.ownBlock) (hBS : Below w1.heap.size w1 wS) (hat : iv.ownBlock = some g ∨ w1.heap.size ≤ g)
    {c0 c1 c2 c3 c4 c5 : Value} (hown : w2.ownsRow base 35 6 (.slice (some ⟨g, 0, none⟩) (acc.length + 1) cp) (acc.length + 1) (vs.flatMap aggC ++ [c0, c1, c2, c3, c4, c5]))
    {S : Nat → Prop} {j : J} (hJ : JAt S w1 n (.agg #[c0, c1, c2, c3, c4, c5]) j) (hq : ∀ b, S b → b < w1.heap.size → base ≤ b ∧ some b ≠ iv.ownBlock ∧ some b ≠ nv.ownBlock ∧ b ≠ bv) :
    Own2 base bv n k nv (.slice (some ⟨g, 0, none⟩) (acc.length + 1) cp) ns (vs ++ [.agg #[c0, c1, c2, c3, c4, c5]]) (acc ++ [j]) (w2.setCell ⟨bv, 5, none⟩ (.slice (some ⟨g, 0, none⟩) (acc.length + 1) cp)) := by
  obtain ⟨F1, F2, F3, F4, F5⟩ := item_frame (bv := bv) (iv := iv) hgrow hBS (.slice (some ⟨g, 0, none⟩) (acc.length + 1) cp)
  have hbl := Own.block_lt hO.blk
  have hbg : bv ≠ g := by
    rcases hat with h | h
    · rintro rfl; exact hO.ine h
    · omega
  have hsS := hBS.size
  have hne2 : some bv ≠ iv.ownBlock := fun h => hO.ine h.symm
  have hb2 : w2.heap[bv]? = w1.heap[bv]? := by rw [hgrow.block bv (by omega) hne2, hBS.block bv hbl]
  have hnlt : ∀ b, nv.ownBlock = some b → b < w1.heap.size := fun b hb => (hO.nrow.lt b hb).2
  have hnapart : nv.ownBlock = none ∨ nv.ownBlock ≠ iv.ownBlock := Own.own_apart hO.irow hO.nrow (by decide)
  refine ⟨set_cell5 (hb2.trans hO.blk) _, ?_, ?_, by simp [hO.vl], by simpa [Value.ownBlock] using Ne.symm hbg, hO.txt, fun i hi => ?_⟩
  · have := ownsRow_setCell_other hown (a := ⟨bv, 5, none⟩) (by simpa [Value.ownBlock] using Ne.symm hbg) (.slice (some ⟨g, 0, none⟩) (acc.length + 1) cp)
    simpa [aggC] using this
  · refine ⟨hO.nrow.1, ?_⟩
    rcases hO.nrow.2 with hn | ⟨gn, cap, cur, hv, hbg', hg, hr⟩
    · exact .inl hn
    · refine .inr ⟨gn, cap, cur, hv, hbg', ?_, hr⟩
      have e1 : nv.ownBlock = some gn := by rw [hv]; rfl
      rw [F1 gn (hnlt gn e1) ?_ ?_]; exact hg
      · intro h
        rcases hnapart with h' | h'
        · rw [h'] at e1; cases e1
        · exact h' (e1.trans h)
      · rintro rfl
        have := hO.blk; rw [hg] at this; cases this
  · have hS : ∀ b, (base ≤ b ∧ some b ≠ iv.ownBlock ∧ some b ≠ nv.ownBlock ∧ b ≠ bv) → b < w1.heap.size → InS base bv nv (.slice (some ⟨g, 0, none⟩) (acc.length + 1) cp) b := fun b hb hlt => by
      refine ⟨hb.1, ?_, hb.2.2.1, hb.2.2.2⟩
      show some b ≠ some g
      intro e
      cases e
      rcases hat with h | h
      · exact hb.2.1 h.symm
      · omega
    by_cases hia : i < acc.length
    · have := hO.items i hia
      have e1 : (vs ++ [Value.agg #[c0, c1, c2, c3, c4, c5]]).getD i undef = vs.getD i undef := by rw [List.getD_eq_getElem?_getD, List.getD_eq_getElem?_getD, List.getElem?_append_left (by rw [hO.vl]; exact hia)]
      have e2 : (acc ++ [j]).getD i j0 = acc.getD i j0 := by rw [List.getD_eq_getElem?_getD, List.getD_eq_getElem?_getD, List.getElem?_append_left hia]
      rw [e1, e2]
      exact this.keep (fun b hb hlt => hS b hb hlt) (fun b hb hlt => F1 b hlt hb.2.1 hb.2.2.2) F2
    · have hi' : i = acc.length := by simp at hi; omega
      subst hi'
      have e1 : (vs ++ [Value.agg #[c0, c1, c2, c3, c4, c5]]).getD acc.length undef = .agg #[c0, c1, c2, c3, c4, c5] := by rw [← hO.vl, List.getD_eq_getElem?_getD, List.getElem?_append_right (Nat.le_refl _)]; simp
      have e2 : (acc ++ [j]).getD acc.length j0 = j := by rw [List.getD_eq_getElem?_getD, List.getElem?_append_right (Nat.le_refl _)]; simp
      rw [e1, e2]
      exact hJ.keep (fun b hb hlt => hS b (hq b hb hlt) hlt) (fun b hb hlt => F1 b hlt (hq b hb hlt).2.1 (hq b hb hlt).2.2.2) F2
end
/-- What holds between the rounds of Fit's loop: the box of the raw value, the place of the answer, the value under construction. -/
structure FI (w : World) (n : Nat) (K : Int) (X : Array Value) (ns : List (List UInt8)) (acc : List J) (wr : World) : Prop where
  bel : Below w.heap.size w wr
  bx : wr.heap[w.heap.size]? = some (.cells X 26 (0, 0))
  bres : wr.heap[w.heap.size + 1]? = some (.cells zero6 35 (0, 0))
  own : ∃ nv iv vs, Own2 (w.heap.size + 3) (w.heap.size + 2) (n + 1) K nv iv ns vs acc wr
  sz : w.heap.size + 3 ≤ wr.heap.size
theorem FI.below {w : World} {n : Nat} {K : Int} {X : Array Value} {ns : List (List UInt8)} {acc : List J} {wr w' : World} (h : FI w n K X ns acc wr) {B : Nat} (hb : Below B wr w') (hB : wr.heap.size ≤ B) : FI w n K X ns acc w' := by
  obtain ⟨nv, iv, vs, hO⟩ := h.own
  have hs := h.sz
  have hs2 := hb.size
  exact ⟨h.bel.trans (hb.mono (by omega)), (hb.block _ (by omega)).trans h.bx, (hb.block _ (by omega)).trans h.bres, ⟨nv, iv, vs, hO.below hb hB⟩, by omega⟩
theorem FI.begin {w : World} {n : Nat} {K : Int} {X : Array Value} : FI w n K X [] [] (((w.alloc (.cells X 26)).alloc (.cells zero6 35)).alloc (.cells #[.int .i64 K, .int .i64 0, .int .i64 0, .string ⟨#[]⟩, .slice none 0 0, .slice none 0 0] 35)) := by
  have hs : (((w.alloc (.cells X 26)).alloc (.cells zero6 35)).alloc (.cells #[.int .i64 K, .int .i64 0, .int .i64 0, .string ⟨#[]⟩, .slice none 0 0, .slice none 0 0] 35)).heap.size = w.heap.size + 3 := by simp
  obtain ⟨x1, x2, x3, x4⟩ := three_cells (Below.refl _ (((w.alloc (.cells X 26)).alloc (.cells zero6 35)).alloc (.cells #[.int .i64 K, .int .i64 0, .int .i64 0, .string ⟨#[]⟩, .slice none 0 0, .slice none 0 0] 35)))
  refine ⟨below3 _ _ _ _, ?_, x1, ⟨_, _, _, own2_new x2⟩, by omega⟩
  rw [Below.heap_alloc _ _ _ (by simp; omega), Below.heap_alloc _ _ _ (by simp)]
  exact heap_alloc_new w _
/-- A round that appends an item. -/
theorem FI.item {w : World} {n : Nat} {K : Int} {X : Array Value} {ns : List (List UInt8)} {acc : List J} {wq w1 wS w2 : World} {nv iv : Value} {vs : List Value} {g cp : Nat} {c0 c1 c2 c3 c4 c5 : Value} {j : J}
    (h : FI w n K X ns acc wq) (hO : Own2 (w.heap.size + 3) (w.heap.size + 2) (n + 1) K nv iv ns vs acc wq) (hb1 : Below wq.heap.size wq w1) (hBS : Below w1.heap.size w1 wS) (hgrow : wS.grownBy w2 iv.ownBlock) (hat : iv.ownBlock = some g ∨ w1.heap.size ≤ g)
    (hown : w2.ownsRow (w.heap.size + 3) 35 6 (.slice (some ⟨g, 0, none⟩) (acc.length + 1) cp) (acc.length + 1) (vs.flatMap aggC ++ [c0, c1, c2, c3, c4, c5]))
    (hJ : JAt (fun b => wq.heap.size ≤ b) w1 (n + 1) (.agg #[c0, c1, c2, c3, c4, c5]) j) : FI w n K X ns (acc ++ [j]) (w2.setCell ⟨w.heap.size + 2, 5, none⟩ (.slice (some ⟨g, 0, none⟩) (acc.length + 1) cp)) := by
  have h1 := h.below hb1 (Nat.le_refl _)
  have hO1 := hO.below hb1 (Nat.le_refl _)
  have hsq := h.sz
  have hs1 := hb1.size
  obtain ⟨F1, F2, F3, F4, F5⟩ := item_frame (bv := w.heap.size + 2) (iv := iv) hgrow hBS (.slice (some ⟨g, 0, none⟩) (acc.length + 1) cp)
  have hib : ∀ b, iv.ownBlock = some b → w.heap.size + 3 ≤ b ∧ b < wq.heap.size := fun b hb => hO.irow.lt b hb
  have hnb : ∀ b, nv.ownBlock = some b → w.heap.size + 3 ≤ b ∧ b < wq.heap.size := fun b hb => hO.nrow.lt b hb
  refine ⟨⟨F3.trans h1.bel.os, F4.trans h1.bel.tape, F5.trans h1.bel.output, by have := h1.sz; omega, fun b hb => ?_⟩, ?_, ?_, ⟨nv, _, _, step_item hO1 hgrow hBS hat hown hJ (fun b hb _ => ⟨by omega, fun h => by have := (hib b h.symm).2; omega, fun h => by have := (hnb b h.symm).2; omega, by omega⟩)⟩, by have := h1.sz; omega⟩
  · rw [F1 b (by omega) (fun h => by have := (hib b h.symm).1; omega) (by omega)]; exact h1.bel.block b hb
  · rw [F1 _ (by omega) (fun h => by have := (hib _ h.symm).1; omega) (by omega)]; exact h1.bx
  · rw [F1 _ (by omega) (fun h => by have := (hib _ h.symm).1; omega) (by omega)]; exact h1.bres
/-- The answer. -/
theorem FI.fin {w : World} {n : Nat} {K : Int} {X : Array Value} {ns : List (List UInt8)} {acc : List J} {wr : World} (h : FI w n K X ns acc wr) (hK : i64B K) (hn : ns.length ≤ 1000000) (ha : acc.length ≤ 1000000) :
    ∃ a nn c a' nn' c', wr.heap[w.heap.size + 2]? = some (.cells #[.int .i64 K, .int .i64 0, .int .i64 0, .string ⟨#[]⟩, .slice a nn c, .slice a' nn' c'] 35 (0, 0)) ∧
      ∀ c0 c1 c2 c3 c4 c5, FRet w (n + 2) (.mk K 0 0 [] ns acc) (.returned (.agg #[.int .i64 K, .int .i64 0, .int .i64 0, .string ⟨#[]⟩, .slice a nn c, .slice a' nn' c'])) (put6 wr (w.heap.size + 1) 0 c0 c1 c2 c3 c4 c5) := by
  obtain ⟨nv, iv, vs, hO⟩ := h.own
  have hj := hO.jat hK hn ha
  have hb := hO.blk
  obtain ⟨ao, c, rfl⟩ := own_slice hO.irow
  obtain ⟨an, cn, rfl⟩ := own_slice hO.nrow
  exact ⟨_, _, _, _, _, _, hb, fun c0 c1 c2 c3 c4 c5 => fret_fin h.bel (by omega) (hj.keep (fun b hb _ => ⟨by omega, by omega⟩) (fun _ _ _ => rfl) (Nat.le_refl _)) _ _ _ _ _ _⟩
end Go.Proofs.Ytafmnoeljefpaaa.Js
