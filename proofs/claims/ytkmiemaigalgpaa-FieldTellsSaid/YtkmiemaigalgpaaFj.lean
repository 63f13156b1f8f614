import Derived.Test.YtkmiemaigalgpaaFi
/- Layer 5: the contracts of Int, Str, Yes, Arr, Get and List. -/
set_option linter.unusedVariables false
set_option linter.unusedSimpArgs false
namespace Go.Proofs.Ytkmiemaigalgpaa.Js
open Go.RowKit Lex

def intJ (n : Int) : J := if (Dec.mk n 0).2.2 = true then .mk 4 (Dec.mk n 0).1 (Dec.mk n 0).2.1 [] [] [] else .mk 1 0 0 [] [] []
set_option maxHeartbeats 1000000 in
set_option maxRecDepth 100000 in
theorem yes_any (b : Bool) (w : World) : Calls Try.prog 25 #[.bool b] w (Ret (bareV (if b = true then 3 else 2) 0 0 []) w) := by
  unfold bareV
  cases b with
  | true =>
    go_enter Try.func25, Try.ntmps25
    go_wp2_with fail
    exact bodyPost_ret (v := .agg #[.int .i64 3, .int .i64 0, .int .i64 0, .string ⟨#[]⟩, .slice none 0 0, .slice none 0 0]) (by simp [results, Try.results25, go_sem]) rfl ⟨rfl, belowOne _ _⟩
  | false =>
    go_enter Try.func25, Try.ntmps25
    go_wp2_with fail
    exact bodyPost_ret (v := .agg #[.int .i64 2, .int .i64 0, .int .i64 0, .string ⟨#[]⟩, .slice none 0 0, .slice none 0 0]) (by simp [results, Try.results25, go_sem]) rfl ⟨rfl, belowOne _ _⟩
set_option maxHeartbeats 1000000 in
set_option maxRecDepth 100000 in
theorem str5_any (t : List UInt8) (w : World) : Calls Try.prog 23 #[.string ⟨t.toArray⟩] w (Ret (bareV 5 0 0 t) w) := by
  unfold bareV
  go_enter Try.func23, Try.ntmps23
  go_wp2_with fail
  exact bodyPost_ret (v := .agg #[.int .i64 5, .int .i64 0, .int .i64 0, .string ⟨t.toArray⟩, .slice none 0 0, .slice none 0 0]) (by simp [results, Try.results23, go_sem]) rfl ⟨rfl, belowOne _ _⟩
theorem twelve_of {w : World} {b : Nat} {T : TypeId} {c0 c1 c2 c3 c4 c5 : Value} (h : w.heap[b]? = some (.cells #[c0, c1, c2, c3, c4, c5] T (0, 0))) :
    (w.cell? ⟨b, 0, none⟩ = some c0 ∧ w.cell? ⟨b, 1, none⟩ = some c1 ∧ w.cell? ⟨b, 2, none⟩ = some c2 ∧ w.cell? ⟨b, 3, none⟩ = some c3 ∧ w.cell? ⟨b, 4, none⟩ = some c4 ∧ w.cell? ⟨b, 5, none⟩ = some c5) ∧
      w.frozen? ⟨b, 0, none⟩ = false ∧ w.frozen? ⟨b, 1, none⟩ = false ∧ w.frozen? ⟨b, 2, none⟩ = false ∧ w.frozen? ⟨b, 3, none⟩ = false ∧ w.frozen? ⟨b, 4, none⟩ = false ∧ w.frozen? ⟨b, 5, none⟩ = false :=
  ⟨six_of h, free_of h 0, free_of h 1, free_of h 2, free_of h 3, free_of h 4, free_of h 5⟩
/-- The answer's place, behind a call. -/
theorem ans_one {w w1 : World} {C : Array Value} {T : TypeId} (hb : Below (w.alloc (.cells C T)).heap.size (w.alloc (.cells C T)) w1) : w1.heap[w.heap.size]? = some (.cells C T (0, 0)) ∧ w.heap.size < w1.heap.size ∧ Below w.heap.size w w1 := by
  have hs := hb.size
  simp at hs
  exact ⟨(hb.block _ (by simp)).trans (heap_alloc_new w _), by omega, Dec.below_call hb⟩
theorem below_one' {w w1 : World} {o : Obj} (h : Below w.heap.size w w1) : Below w.heap.size w (w1.alloc o) := h.alloc h.size o
theorem put6_alloc_row {w : World} {o : Obj} {b : Nat} {X : Obj} (h : w.heap[b]? = some X) : (w.alloc o).heap[b]? = some X := (heap_alloc_old w o (by rcases Nat.lt_or_ge b w.heap.size with h' | h'; exact h'; rw [Array.getElem?_eq_none h'] at h; cases h)).trans h
set_option maxHeartbeats 1000000 in
set_option maxRecDepth 100000 in
theorem int5_any (n : Int) (w : World) (h0 : -9223372036854775808 ≤ n) (h1 : n ≤ 9223372036854775807) : Calls Try.prog 21 #[.int .i64 n] w (Ret (bareV (intJ n).k (intJ n).m (intJ n).e []) w) := by
  have M1 := Lib.hid (fun w => Dec.make_any n 0 w h0 h1 (by decide))
  unfold Dec.mkV at M1
  unfold intJ bareV
  generalize Dec.mk n 0 = R at *
  obtain ⟨r1, r2, r3⟩ := R
  simp only at M1 ⊢
  cases r3 with
  | true =>
    rw [if_pos rfl]
    show Calls _ _ _ _ (Ret (.agg #[.int .i64 4, .int .i64 r1, .int .i64 r2, .string ⟨#[]⟩, .slice none 0 0, .slice none 0 0]) w)
    go_enter Try.func21, Try.ntmps21
    go_wp2_with (go_at_call 43; (with_reducible refine (M1.out _).mono ?_); rintro e1 w1 ⟨rfl, hb1⟩; obtain ⟨x1, x2, x3⟩ := ans_one hb1; obtain ⟨⟨z0, z1, z2, z3, z4, z5⟩, g0, g1, g2, g3, g4, g5⟩ := twelve_of x1)
    have q := six_of (put6_alloc_row (o := .cells #[.int .i64 r1, .int .i64 r2] 23) (put6_self x1 (.int .i64 4) (.int .i64 r1) (.int .i64 r2) (.string ⟨#[]⟩) (.slice none 0 0) (.slice none 0 0)))
    simp only [put6, Nat.zero_add] at q
    obtain ⟨q0, q1, q2, q3, q4, q5⟩ := q
    refine bodyPost_ret (v := .agg #[.int .i64 4, .int .i64 r1, .int .i64 r2, .string ⟨#[]⟩, .slice none 0 0, .slice none 0 0]) (by simp [results, Try.results21, go_sem, q0, q1, q2, q3, q4, q5]) rfl ?_
    exact ⟨rfl, (below_put6' x3 (Nat.le_refl _) _ _ _ _ _ _).alloc (by rw [put6_size]; exact Nat.le_of_lt x2) _⟩
  | false =>
    rw [if_neg (by simp)]
    show Calls _ _ _ _ (Ret (.agg #[.int .i64 1, .int .i64 0, .int .i64 0, .string ⟨#[]⟩, .slice none 0 0, .slice none 0 0]) w)
    go_enter Try.func21, Try.ntmps21
    go_wp2_with (go_at_call 43; (with_reducible refine (M1.out _).mono ?_); rintro e1 w1 ⟨rfl, hb1⟩; obtain ⟨x1, x2, x3⟩ := ans_one hb1; obtain ⟨⟨z0, z1, z2, z3, z4, z5⟩, g0, g1, g2, g3, g4, g5⟩ := twelve_of x1)
    have q := six_of (put6_alloc_row (o := .cells #[.int .i64 r1, .int .i64 r2] 23) (put6_self x1 (.int .i64 1) (.int .i64 0) (.int .i64 0) (.string ⟨#[]⟩) (.slice none 0 0) (.slice none 0 0)))
    simp only [put6, Nat.zero_add] at q
    obtain ⟨q0, q1, q2, q3, q4, q5⟩ := q
    refine bodyPost_ret (v := .agg #[.int .i64 1, .int .i64 0, .int .i64 0, .string ⟨#[]⟩, .slice none 0 0, .slice none 0 0]) (by simp [results, Try.results21, go_sem, q0, q1, q2, q3, q4, q5]) rfl ?_
    exact ⟨rfl, (below_put6' x3 (Nat.le_refl _) _ _ _ _ _ _).alloc (by rw [put6_size]; exact Nat.le_of_lt x2) _⟩

/-- An answer is laid into its place. -/
theorem cret_fin {w w1 : World} {n bres : Nat} {j : J} {k m e : Int} {t : ByteArray} {a a' : Option Addr} {nn c nn' c' : Nat} (hB : Below w.heap.size w w1) (h1 : w.heap.size ≤ bres)
    (hJ : JAt (fun b => w.heap.size ≤ b ∧ b ≠ bres) w1 n (.agg #[.int .i64 k, .int .i64 m, .int .i64 e, .string t, .slice a nn c, .slice a' nn' c']) j) (c0 c1 c2 c3 c4 c5 : Value) :
    JAt (fun b => w.heap.size ≤ b) (put6 w1 bres 0 c0 c1 c2 c3 c4 c5) n (.agg #[.int .i64 k, .int .i64 m, .int .i64 e, .string t, .slice a nn c, .slice a' nn' c']) j ∧ Below w.heap.size w (put6 w1 bres 0 c0 c1 c2 c3 c4 c5) := by
  have hsz := put6_size w1 bres 0 c0 c1 c2 c3 c4 c5
  exact ⟨hJ.keep (fun b hb _ => hb.1) (fun b hb _ => put6_block w1 bres 0 c0 c1 c2 c3 c4 c5 b hb.2) (by omega), below_put6' hB h1 _ _ _ _ _ _⟩
/-- What an item and a bool leave. -/
def GRet (w : World) (d : Nat) (r : J × Bool) (e : Ending) (w' : World) : Prop :=
  ∃ k m e1 t an nn cn ai ni ci, e = .returned (.tuple #[.agg #[.int .i64 k, .int .i64 m, .int .i64 e1, .string t, .slice an nn cn, .slice ai ni ci], .bool r.2]) ∧
    JAt (fun b => w.heap.size ≤ b) w' d (.agg #[.int .i64 k, .int .i64 m, .int .i64 e1, .string t, .slice an nn cn, .slice ai ni ci]) r.1 ∧ Below w.heap.size w w'
/-- What items and a bool leave. -/
def LsRet (w : World) (d : Nat) (r : List J × Bool) (e : Ending) (w' : World) : Prop :=
  ∃ ai ci, e = .returned (.tuple #[.slice ai r.1.length ci, .bool r.2]) ∧ r.1.length ≤ ci ∧ ItemsAt (fun b => w.heap.size ≤ b) w' d ai r.1 ∧ Below w.heap.size w w'

set_option maxHeartbeats 1000000 in
set_option maxRecDepth 100000 in
theorem arr5_any (S : Nat → Prop) (d : Nat) (w : World) (ai : Option Addr) (ci : Nat) (is : List J) (hl : is.length ≤ 1599289640354) (hc : is.length ≤ ci) (hit : ItemsAt S w d ai is) : Calls Try.prog 27 #[.slice ai is.length ci] w (CRet w (d + 1) (.mk 6 0 0 [] [] is)) := by
  have CA := Lib.hid (fun (w' : World) (hb : Below w.heap.size w w') => copiedAll_any S d (copied_ok d) w' ai ci is hl hc (hit.below hb))
  have HL := Lib.hid hl
  unfold LRet at CA
  clear hl hc hit
  go_enter Try.func27, Try.ntmps27
  go_wp2_with (go_at_call 45; (with_reducible refine (CA.out _ (belowOne _ _)).mono ?_); rintro e1 w1 ⟨ai2, ci2, rfl, hc2, hI2, hb1⟩; obtain ⟨x1, x2, x3⟩ := ans_one hb1; obtain ⟨⟨z0, z1, z2, z3, z4, z5⟩, g0, g1, g2, g3, g4, g5⟩ := twelve_of x1)
  refine bodyPost_ret (v := .agg #[.int .i64 6, .int .i64 0, .int .i64 0, .string ⟨#[]⟩, .slice none 0 0, .slice ai2 is.length ci2]) (by simp [results, Try.results27, go_sem, z0, z1, z2, z3, z4, z5]) rfl ?_
  have z : i64B 0 := ⟨by decide, by decide⟩
  obtain ⟨q1, q2⟩ := cret_fin (bres := w.heap.size) (n := d + 1) (j := .mk 6 0 0 [] [] is) x3 (Nat.le_refl _) ⟨_, _, _, rfl, ⟨by decide, by decide⟩, z, z, by unfold txtB; simp, strs_none, hc2, HL.out, hI2.keep (fun b hb _ => by simp at hb; exact ⟨by omega, by omega⟩) (fun _ _ _ => rfl) (Nat.le_refl _)⟩ (.int .i64 6) (.int .i64 0) (.int .i64 0) (.string ⟨#[]⟩) (.slice none 0 0) (.slice ai2 is.length ci2)
  exact ⟨_, _, _, _, _, _, _, _, _, _, rfl, q1, q2⟩

set_option maxHeartbeats 1000000 in
set_option maxRecDepth 100000 in
theorem whole_any (S : Nat → Prop) (d : Nat) (v : Value) (j : J) (w : World) (h : JAt S w d v j) : Calls Try.prog 31 #[v] w (GRet w d (j, true)) := by
  have CO := Lib.hid (fun (w' : World) (hb : Below w.heap.size w w') => copied_ok d S w' v j (h.below hb (Nat.le_refl _)))
  unfold CRet at CO
  obtain ⟨k, m, e, t, an, nn, cn, ai, ni, ci, rfl⟩ := jAt_form h
  clear h
  go_enter Try.func31, Try.ntmps31
  go_wp2_with (go_at_call 29; (with_reducible refine (CO.out _ (belowTwo _ _ _)).mono ?_); rintro e1 w1 ⟨k1, m1, e1, t1, an1, nn1, cn1, ai1, ni1, ci1, rfl, hJ1, hb1⟩; obtain ⟨x1, x2, x3, hbw⟩ := two_boxes hb1; obtain ⟨⟨z0, z1, z2, z3, z4, z5⟩, g0, g1, g2, g3, g4, g5⟩ := twelve_of x2)
  refine bodyPost_ret (v := .tuple #[.agg #[.int .i64 k1, .int .i64 m1, .int .i64 e1, .string t1, .slice an1 nn1 cn1, .slice ai1 ni1 ci1], .bool true]) (by simp [results, Try.results31, go_sem, z0, z1, z2, z3, z4, z5]) rfl ?_
  obtain ⟨q1, q2⟩ := cret_fin (bres := w.heap.size + 1) hbw (by omega) (hJ1.keep (fun b hb _ => by simp at hb; exact ⟨by omega, by omega⟩) (fun _ _ _ => rfl) (Nat.le_refl _)) (.int .i64 k1) (.int .i64 m1) (.int .i64 e1) (.string t1) (.slice an1 nn1 cn1) (.slice ai1 ni1 ci1)
  exact ⟨_, _, _, _, _, _, _, _, _, _, rfl, q1, q2⟩

set_option maxHeartbeats 1000000 in
set_option maxRecDepth 100000 in
theorem list5_any (S : Nat → Prop) (d : Nat) (v : Value) (j : J) (w : World) (h : JAt S w d v j) : Calls Try.prog 40 #[v] w (LsRet w d (lstS j)) := by
  obtain ⟨k, m, e, t, ns, is⟩ := j
  obtain ⟨d', an, cn, ai, ci, hd', rfl, _, _, _, _, _, hn1, hn, hi1, hi, hit⟩ := h.open_
  have hI : ItemsAt S w d' ai is := hit
  have CA := Lib.hid (fun (w' : World) (hb : Below w.heap.size w w') => copiedAll_any S d' (copied_ok d') w' ai ci is hi hi1 (hI.below hb))
  unfold LRet at CA
  unfold lstS
  clear hit hI h
  by_cases hk : k = 6
  · subst hk
    rw [if_pos (show (J.mk 6 m e t ns is).k = 6 from rfl)]
    show Calls _ _ _ _ (LsRet w d (is, true))
    go_enter Try.func40, Try.ntmps40
    go_wp2_with (go_at_call 45; (with_reducible refine (CA.out _ (belowOne _ _)).mono ?_); rintro e1 w1 ⟨ai2, ci2, rfl, hc2, hI2, hb1⟩)
    go_ret2
    subst hd'
    refine ⟨ai2, ci2, rfl, hc2, fun hp => ?_, Dec.below_call hb1⟩
    obtain ⟨b, off, q1, q2, q3, q4⟩ := hI2 hp
    exact ⟨b, off, q1, by simp at q2; omega, q3, fun i hi => by obtain ⟨u, r1, r2⟩ := q4 i hi; exact ⟨u, r1, (r2.deep (Nat.le_succ _)).keep (fun b hb _ => by simp at hb; omega) (fun _ _ _ => rfl) (Nat.le_refl _)⟩⟩
  · rw [if_neg (show ¬ (J.mk k m e t ns is).k = 6 from hk)]
    have hne : (k != 6) = true := by simpa using hk
    go_enter Try.func40, Try.ntmps40
    go_wp2_with fail
    go_ret2
    exact ⟨none, 0, rfl, Nat.le_refl _, fun h => by simp at h, belowOne _ _⟩
end Go.Proofs.Ytkmiemaigalgpaa.Js
