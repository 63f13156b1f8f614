import Derived.Test.YtnjcfnmdelpecaaTd
/- Layer 7: the contract of Parse. -/
set_option linter.unusedVariables false
set_option linter.unusedSimpArgs false
namespace Go.Proofs.Ytnjcfnmdelpecaa.Tp
open Go.RowKit Go.Shelf
attribute [local go_sem] Oper.semAt_some

/-- A cell of a block that holds a value, and may be written. -/
def HoldsA (W : World) (b o : Nat) (v : Value) : Prop := W.cell? ⟨b, o, none⟩ = some v ∧ W.frozen? ⟨b, o, none⟩ = false
theorem HoldsA.kept {W W' : World} {b o : Nat} {v : Value} {row : Option Nat} (h : HoldsA W b o v) (hg : W.grownBy W' row) (hr : ∀ r, row = some r → ∃ o : Obj, W.heap[r]? = some o ∧ o.isCells = false) : HoldsA W' b o v :=
  ⟨cell_kept h.1 hg hr, (frozen_kept h.1 hg hr).trans h.2⟩
theorem HoldsA.drewN {W : World} {b o : Nat} {v : Value} (h : HoldsA W b o v) (n : Nat) : HoldsA (W.drewN n) b o v := h
theorem HoldsA.set {W : World} {b o : Nat} {v : Value} (h : HoldsA W b o v) (v' : Value) : HoldsA (W.setCell ⟨b, o, none⟩ v') b o v' :=
  ⟨World.cell?_setCell_same' _ _ _ (by rw [h.1]; rfl), by rw [World.frozen?_setCell]; exact h.2⟩
theorem HoldsA.other {W : World} {b c o p : Nat} {v : Value} (h : HoldsA W b o v) (hn : b ≠ c ∨ o ≠ p) (v' : Value) : HoldsA (W.setCell ⟨c, p, none⟩ v') b o v :=
  ⟨by rw [World.cell?_setCell_other _ _ _ _ (by simp; omega)]; exact h.1, by rw [World.frozen?_setCell]; exact h.2⟩
theorem HoldsA.alloc {W : World} {b o : Nat} {v : Value} (h : HoldsA W b o v) (ob : Obj) : HoldsA (W.alloc ob) b o v :=
  h.kept (World.grownBy_alloc W ob none) (fun r e => by cases e)
theorem HoldsA.new (W : World) (vs : Array Value) (t : TypeId) (o : Nat) (v : Value) (h : vs[o]? = some v) : HoldsA (W.alloc (.cells vs t)) W.heap.size o v := ⟨by simp [h], by simp⟩

theorem HoldsA.below {n b o : Nat} {W W' : World} {v : Value} (h : HoldsA W b o v) (hb : Below n W W') (hlt : b < n) : HoldsA W' b o v :=
  ⟨(hb.cell (p := ⟨b, o, none⟩) hlt).trans h.1, (hb.frozen (p := ⟨b, o, none⟩) hlt).trans h.2⟩
/-- Three cells and an error, written. -/
def set4 (W : World) (b : Nat) (v0 v1 v2 v3 : Value) : World := (((W.setCell ⟨b, 0, none⟩ v0).setCell ⟨b, 1, none⟩ v1).setCell ⟨b, 2, none⟩ v2).setCell ⟨b + 1, 0, none⟩ v3
theorem set4_keeps (W : World) (b : Nat) (v0 v1 v2 v3 : Value) : KeepsOthers W (set4 W b v0 v1 v2 v3) :=
  (((KeepsOthers.setCell _ _ _).trans (KeepsOthers.setCell _ _ _)).trans (KeepsOthers.setCell _ _ _)).trans (KeepsOthers.setCell _ _ _)
theorem set4_below {n : Nat} {W0 W : World} (h : Below n W0 W) {b : Nat} (hb : n ≤ b) (v0 v1 v2 v3 : Value) : Below n W0 (set4 W b v0 v1 v2 v3) :=
  (((h.setCell (p := ⟨b, 0, none⟩) hb _).setCell (p := ⟨b, 1, none⟩) hb _).setCell (p := ⟨b, 2, none⟩) hb _).setCell (p := ⟨b + 1, 0, none⟩) (by simp; omega) _
theorem set4_cells {W : World} {b : Nat} {u0 u1 u2 u3 : Value} (h0 : HoldsA W b 0 u0) (h1 : HoldsA W b 1 u1) (h2 : HoldsA W b 2 u2) (h3 : HoldsA W (b + 1) 0 u3) (v0 v1 v2 v3 : Value) :
    HoldsA (set4 W b v0 v1 v2 v3) b 0 v0 ∧ HoldsA (set4 W b v0 v1 v2 v3) b 1 v1 ∧ HoldsA (set4 W b v0 v1 v2 v3) b 2 v2 ∧ HoldsA (set4 W b v0 v1 v2 v3) (b + 1) 0 v3 :=
  ⟨(((h0.set _).other (by omega) _).other (by omega) _).other (by omega) _, (((h1.other (by omega) _).set _).other (by omega) _).other (by omega) _,
   (((h2.other (by omega) _).other (by omega) _).set _).other (by omega) _, (((h3.other (by omega) _).other (by omega) _).other (by omega) _).set _⟩

/-- What is told of a text's parts, by place. -/
def nthL (pre : List (List UInt8 × Bool)) (j : Nat) : List UInt8 := (pre.map (·.1)).getD j []
theorem nthL_tag (l : List (List UInt8)) (j : Nat) : nthL (tagL l) j = l.getD j [] := by
  unfold nthL; rw [tagL_fst]
theorem nthL_old {pre : List (List UInt8 × Bool)} (x : List UInt8 × Bool) {j : Nat} (h : j < pre.length) : nthL (pre ++ [x]) j = nthL pre j := by
  unfold nthL
  rw [List.map_append, List.getD_eq_getElem?_getD, List.getD_eq_getElem?_getD, List.getElem?_append_left (by simpa using h)]
theorem nthL_new {pre : List (List UInt8 × Bool)} (x : List UInt8 × Bool) {j : Nat} (h : pre.length = j) : nthL (pre ++ [x]) j = x.1 := by
  subst h
  unfold nthL
  rw [List.map_append, List.getD_eq_getElem?_getD, List.getElem?_append_right (by simp)]
  simp
theorem nthL_none {pre : List (List UInt8 × Bool)} {j : Nat} (h : pre.length ≤ j) : nthL pre j = [] := by
  unfold nthL
  rw [List.getD_eq_getElem?_getD, List.getElem?_eq_none (by simpa using h)]
  rfl
theorem nthL_both {pre : List (List UInt8 × Bool)} (x : List UInt8 × Bool) {j : Nat} (h : pre.length < j) : nthL (pre ++ [x]) j = nthL pre j := by
  rw [nthL_none (by simp; omega), nthL_none (by omega)]
/-- Between two parts: what has been told. -/
def PI (b : Nat) (pre : List (List UInt8 × Bool)) (W : World) : Prop :=
  pre.length ≤ 3 ∧ (HoldsA W b 0 (.string ⟨#[]⟩) ∧ HoldsA W b 1 (.string ⟨#[]⟩) ∧ HoldsA W b 2 (.string ⟨#[]⟩)) ∧ HoldsA W (b + 1) 0 (.int .i64 0) ∧
  (HoldsA W (b + 1 + 1) 0 (.string ⟨(nthL pre 0).toArray⟩) ∧ HoldsA W (b + 1 + 1) 1 (.string ⟨(nthL pre 1).toArray⟩) ∧ HoldsA W (b + 1 + 1) 2 (.string ⟨(nthL pre 2).toArray⟩)) ∧
  HoldsA W (b + 1 + 1 + 1) 0 (.int .i64 (pre.length : Int))
/-- There is one too many. -/
def PX (b : Nat) (c : Code) (pre : List (List UInt8 × Bool)) (W : World) : Prop :=
  c = .ret ∧ pre.length = 4 ∧ (HoldsA W b 0 (.string ⟨#[]⟩) ∧ HoldsA W b 1 (.string ⟨#[]⟩) ∧ HoldsA W b 2 (.string ⟨#[]⟩)) ∧ HoldsA W (b + 1) 0 (.int .i64 70)
/-- What Parse answers. -/
def parseV : Option (List UInt8 × List UInt8 × List UInt8) → Value
  | some (m, s, k) => .tuple #[.agg #[.string ⟨m.toArray⟩, .string ⟨s.toArray⟩, .string ⟨k.toArray⟩], .int .i64 0]
  | none => .tuple #[.agg #[.string ⟨#[]⟩, .string ⟨#[]⟩, .string ⟨#[]⟩], .int .i64 70]

theorem part_len : ∀ (l : List UInt8) (p : List UInt8), p ∈ partsL l → p.length ≤ l.length
  | [], p, h => by simp [partsL] at h; simp [h]
  | c :: r, p, h => by
    rw [partsL] at h
    by_cases e : c = 47
    · rw [if_pos e] at h
      rcases List.mem_cons.1 h with rfl | h
      · simp
      · have := part_len r p h; simp; omega
    · rw [if_neg e] at h
      obtain ⟨q, qs, eq⟩ := partsL_cons (l := r)
      rw [eq] at h
      rcases List.mem_cons.1 h with rfl | h
      · have := part_len r q (by rw [eq]; simp); simp; omega
      · have := part_len r p (by rw [eq]; simp [h]); simp; omega
theorem nth_len (l : List UInt8) (j : Nat) : ((partsL l).getD j []).length ≤ l.length := by
  rw [List.getD_eq_getElem?_getD]
  cases h : (partsL l)[j]? with
  | none => simp
  | some p => exact part_len l p (List.mem_of_getElem? h)
theorem trim_len (z : List UInt8) : (trimL z).length ≤ z.length := by
  unfold trimL
  split
  · simp
  · exact Nat.le_refl _

set_option maxRecDepth 100000 in
set_option maxHeartbeats 2000000 in
theorem Parse_any (z : List UInt8) (w : World) (hz : z.length ≤ reachN) :
    Calls Try.prog 17 #[.string ⟨z.toArray⟩] w (Ret (parseV (parseS z)) w) := by
  rw [← parseP_eq]
  refine (callsIn_wide (n := 6)).1 ?_
  refine callsIn_of_wp_marks Try.func17 rfl trivial ?_ rfl
  simp only [Try.ntmps17, List.size_toArray, List.length_cons, List.length_nil, Nat.reduceAdd, Nat.reduceSub, Array.replicate_succ, Array.replicate_zero, List.push_toArray, List.append_toArray, List.nil_append, List.cons_append]
  have CT := Lib.hid (fun u => Trim_any z u)
  have HTL := Lib.hid (Nat.le_trans (trim_len z) hz)
  gi_wp2_with (first | (refine ⟨trivial, ?_⟩; gi_at_call 25; refine (callsIn_wide.2 (CT.out _)).mono ?_; rintro e w' ⟨rfl, rfl⟩) | (refine ⟨trivial, ?_⟩; gi_at_call 24; refine (callsIn_wide.2 (parts_any _ _)).mono ?_; rintro e w' ⟨rfl, rfl⟩))
  clear CT
  obtain ⟨W1, hW1⟩ : ∃ W1, w.alloc (.cells #[.string ⟨#[]⟩, .string ⟨#[]⟩, .string ⟨#[]⟩] 23) = W1 := ⟨_, rfl⟩
  obtain ⟨W2, hW2⟩ : ∃ W2, W1.alloc (.cells #[.int .i64 0] 26) = W2 := ⟨_, rfl⟩
  obtain ⟨W3, hW3⟩ : ∃ W3, W2.alloc (.cells #[.string ⟨#[]⟩, .string ⟨#[]⟩, .string ⟨#[]⟩] 46) = W3 := ⟨_, rfl⟩
  obtain ⟨W4, hW4⟩ : ∃ W4, W3.alloc (.cells #[.int .i64 0] 3) = W4 := ⟨_, rfl⟩
  obtain ⟨W5, hW5⟩ : ∃ W5, W4.alloc (.cells #[.string ⟨(trimL z).toArray⟩] 9) = W5 := ⟨_, rfl⟩
  rw [hW1, hW2, hW3, hW4, hW5]
  have z1 : W1.heap.size = w.heap.size + 1 := by rw [← hW1]; simp
  have z2 : W2.heap.size = w.heap.size + 1 + 1 := by rw [← hW2, World.size_alloc, z1]
  have z3 : W3.heap.size = w.heap.size + 1 + 1 + 1 := by rw [← hW3, World.size_alloc, z2]
  have z4 : W4.heap.size = w.heap.size + 1 + 1 + 1 + 1 := by rw [← hW4, World.size_alloc, z3]
  have z5 : W5.heap.size = w.heap.size + 1 + 1 + 1 + 1 + 1 := by rw [← hW5, World.size_alloc, z4]
  have hr : ∀ (j : Nat) (v : Value), (#[Value.string ⟨#[]⟩, .string ⟨#[]⟩, .string ⟨#[]⟩] : Array Value)[j]? = some v → HoldsA W5 w.heap.size j v := fun j v h => by
    rw [← hW5, ← hW4, ← hW3, ← hW2, ← hW1]
    exact ((((HoldsA.new w _ _ j v h).alloc _).alloc _).alloc _).alloc _
  have he : HoldsA W5 (w.heap.size + 1) 0 (.int .i64 0) := by
    rw [← hW5, ← hW4, ← hW3, ← hW2, ← z1]
    exact (((HoldsA.new W1 _ _ 0 _ rfl).alloc _).alloc _).alloc _
  have ht : ∀ (j : Nat) (v : Value), (#[Value.string ⟨#[]⟩, .string ⟨#[]⟩, .string ⟨#[]⟩] : Array Value)[j]? = some v → HoldsA W5 (w.heap.size + 1 + 1) j v := fun j v h => by
    rw [← hW5, ← hW4, ← hW3, ← z2]
    exact ((HoldsA.new W2 _ _ j v h).alloc _).alloc _
  have hn : HoldsA W5 (w.heap.size + 1 + 1 + 1) 0 (.int .i64 0) := by
    rw [← hW5, ← hW4, ← z3]
    exact (HoldsA.new W3 _ _ 0 _ rfl).alloc _
  have hs : HoldsA W5 (w.heap.size + 1 + 1 + 1 + 1) 0 (.string ⟨(trimL z).toArray⟩) := by
    rw [← hW5, ← z4]
    exact HoldsA.new W4 _ _ 0 _ rfl
  have hB0 : Below w.heap.size w W5 := by
    rw [← hW5, ← hW4, ← hW3, ← hW2, ← hW1]
    exact (((((Below.refl _ w).alloc (Nat.le_refl _) _).alloc (by simp) _).alloc (by simp; omega) _).alloc (by simp; omega) _).alloc (by simp; omega) _
  have hz5 : w.heap.size ≤ W5.heap.size := by omega
  clear hW1 hW2 hW3 hW4 hW5 z1 z2 z3 z4
  refine wpIn_rangeFunc_ownF (by rfl) (by omega) (gf := 28) (lb := #[.pointer (some ⟨w.heap.size + 1 + 1 + 1 + 1, 0, none⟩)]) rfl trivial (enters_of Try.func28 (by kernel_rfl) rfl)
    (parts_stops _ (by omega) (w.heap.size + 1 + 1 + 1 + 1) (trimL z) HTL.out _ (by omega) hs.1) (fun _ _ => trivial) (fun _ _ _ _ _ _ _ _ => trivial) (Below.refl _ _) (fun _ => rfl)
    (fun pre W => PI w.heap.size pre W ∧ Below w.heap.size w W)
    (fun c pre W => PX w.heap.size c pre W ∧ Below w.heap.size w W)
    (OwnFrom.and (Own.from (fun s A B row hs hg hr => by
      obtain ⟨h1, ⟨h2, h3, h4⟩, h5, ⟨h6, h7, h8⟩, h9⟩ := hs
      exact ⟨h1, ⟨h2.kept hg hr, h3.kept hg hr, h4.kept hg hr⟩, h5.kept hg hr, ⟨h6.kept hg hr, h7.kept hg hr, h8.kept hg hr⟩, h9.kept hg hr⟩) _) (ownFrom_below (Nat.le_refl _) hz5))
    (fun c => OwnFrom.and (Own.from (fun s A B row hs hg hr => by
      obtain ⟨h1, h0, ⟨h2, h3, h4⟩, h5⟩ := hs
      exact ⟨h1, h0, ⟨h2.kept hg hr, h3.kept hg hr, h4.kept hg hr⟩, h5.kept hg hr⟩) _) (ownFrom_below (Nat.le_refl _) hz5))
    ⟨⟨by simp, ⟨hr 0 _ rfl, hr 1 _ rfl, hr 2 _ rfl⟩, he, ⟨ht 0 _ rfl, ht 1 _ rfl, ht 2 _ rfl⟩, hn⟩, hB0⟩
    (fun x => { tmps := #[.string ⟨z.toArray⟩, undef, .pointer (some ⟨w.heap.size, 0, none⟩), .pointer (some ⟨w.heap.size + 1, 0, none⟩), .pointer (some ⟨w.heap.size + 1 + 1, 0, none⟩), .pointer (some ⟨w.heap.size + 1 + 1 + 1, 0, none⟩), .string ⟨x.1.toArray⟩, undef, undef, undef, .string ⟨z.toArray⟩, .string ⟨(trimL z).toArray⟩, .func (.func 28) #[] #[.pointer (some ⟨w.heap.size + 1 + 1 + 1 + 1, 0, none⟩)], .string ⟨x.1.toArray⟩, .bool x.2, undef, undef, undef, undef, undef, undef, undef, undef, undef, undef, undef, undef, undef, undef, undef, undef, undef, undef, undef, undef, undef, undef, undef, undef, undef, undef, undef, undef, undef], defers := [] }) ?assign ?body ?done ?stop
  case assign =>
    intro l x W K hK
    gi_wp2
    exact hK
  case body =>
    clear hr he ht hn hs hB0
    rintro l pre ⟨p, la⟩ W ⟨⟨h1, ⟨⟨c2, f2⟩, ⟨c3, f3⟩, ⟨c4, f4⟩⟩, ⟨c5, f5⟩, ⟨⟨c6, f6⟩, ⟨c7, f7⟩, ⟨c8, f8⟩⟩, ⟨c9, f9⟩⟩, hB⟩ _
    have HBB := Lib.hid hB
    clear hB
    dsimp only
    obtain ⟨k, HK⟩ : ∃ k, Hid (pre.length = k) := ⟨_, rfl⟩
    rw [HK.out] at c9 h1
    have : k = 0 ∨ k = 1 ∨ k = 2 ∨ k = 3 := by omega
    clear h1
    rcases this with rfl | rfl | rfl | rfl
    · have e0 := Lib.hid (nthL_new (p, la) HK.out)
      have e1 := Lib.hid (nthL_both (pre := pre) (p, la) (j := 1) (by have := HK.out; omega))
      have e2 := Lib.hid (nthL_both (pre := pre) (p, la) (j := 2) (by have := HK.out; omega))
      gi_wp2
      refine ⟨(KeepsOthers.setCell _ _ _).trans (KeepsOthers.setCell _ _ _), trivial, ⟨by have := HK.out; simp; omega, ⟨?_, ?_, ?_⟩, ?_, ⟨?_, ?_, ?_⟩, ?_⟩, (HBB.out.setCell (p := ⟨w.heap.size + 1 + 1, 0, none⟩) (by simp; omega) _).setCell (p := ⟨w.heap.size + 1 + 1 + 1, 0, none⟩) (by simp; omega) _⟩
      · exact (HoldsA.other ⟨c2, f2⟩ (by omega) _).other (by omega) _
      · exact (HoldsA.other ⟨c3, f3⟩ (by omega) _).other (by omega) _
      · exact (HoldsA.other ⟨c4, f4⟩ (by omega) _).other (by omega) _
      · exact (HoldsA.other ⟨c5, f5⟩ (by omega) _).other (by omega) _
      · rw [e0.out]; exact (HoldsA.set ⟨c6, f6⟩ _).other (by omega) _
      · rw [e1.out]; exact (HoldsA.other ⟨c7, f7⟩ (by omega) _).other (by omega) _
      · rw [e2.out]; exact (HoldsA.other ⟨c8, f8⟩ (by omega) _).other (by omega) _
      · rw [List.length_append, HK.out]; exact (HoldsA.other ⟨c9, f9⟩ (by omega) _).set _
    · have e0 := Lib.hid (nthL_old (pre := pre) (p, la) (j := 0) (by have := HK.out; omega))
      have e1 := Lib.hid (nthL_new (p, la) HK.out)
      have e2 := Lib.hid (nthL_both (pre := pre) (p, la) (j := 2) (by have := HK.out; omega))
      gi_wp2
      refine ⟨(KeepsOthers.setCell _ _ _).trans (KeepsOthers.setCell _ _ _), trivial, ⟨by have := HK.out; simp; omega, ⟨?_, ?_, ?_⟩, ?_, ⟨?_, ?_, ?_⟩, ?_⟩, (HBB.out.setCell (p := ⟨w.heap.size + 1 + 1, 1, none⟩) (by simp; omega) _).setCell (p := ⟨w.heap.size + 1 + 1 + 1, 0, none⟩) (by simp; omega) _⟩
      · exact (HoldsA.other ⟨c2, f2⟩ (by omega) _).other (by omega) _
      · exact (HoldsA.other ⟨c3, f3⟩ (by omega) _).other (by omega) _
      · exact (HoldsA.other ⟨c4, f4⟩ (by omega) _).other (by omega) _
      · exact (HoldsA.other ⟨c5, f5⟩ (by omega) _).other (by omega) _
      · rw [e0.out]; exact (HoldsA.other ⟨c6, f6⟩ (by omega) _).other (by omega) _
      · rw [e1.out]; exact (HoldsA.set ⟨c7, f7⟩ _).other (by omega) _
      · rw [e2.out]; exact (HoldsA.other ⟨c8, f8⟩ (by omega) _).other (by omega) _
      · rw [List.length_append, HK.out]; exact (HoldsA.other ⟨c9, f9⟩ (by omega) _).set _
    · have e0 := Lib.hid (nthL_old (pre := pre) (p, la) (j := 0) (by have := HK.out; omega))
      have e1 := Lib.hid (nthL_old (pre := pre) (p, la) (j := 1) (by have := HK.out; omega))
      have e2 := Lib.hid (nthL_new (p, la) HK.out)
      gi_wp2
      refine ⟨(KeepsOthers.setCell _ _ _).trans (KeepsOthers.setCell _ _ _), trivial, ⟨by have := HK.out; simp; omega, ⟨?_, ?_, ?_⟩, ?_, ⟨?_, ?_, ?_⟩, ?_⟩, (HBB.out.setCell (p := ⟨w.heap.size + 1 + 1, 2, none⟩) (by simp; omega) _).setCell (p := ⟨w.heap.size + 1 + 1 + 1, 0, none⟩) (by simp; omega) _⟩
      · exact (HoldsA.other ⟨c2, f2⟩ (by omega) _).other (by omega) _
      · exact (HoldsA.other ⟨c3, f3⟩ (by omega) _).other (by omega) _
      · exact (HoldsA.other ⟨c4, f4⟩ (by omega) _).other (by omega) _
      · exact (HoldsA.other ⟨c5, f5⟩ (by omega) _).other (by omega) _
      · rw [e0.out]; exact (HoldsA.other ⟨c6, f6⟩ (by omega) _).other (by omega) _
      · rw [e1.out]; exact (HoldsA.other ⟨c7, f7⟩ (by omega) _).other (by omega) _
      · rw [e2.out]; exact (HoldsA.set ⟨c8, f8⟩ _).other (by omega) _
      · rw [List.length_append, HK.out]; exact (HoldsA.other ⟨c9, f9⟩ (by omega) _).set _
    · have HL : Hid ((pre ++ [(p, la)]).length = 4) := by show _ = _; rw [List.length_append, HK.out]; rfl
      gi_wp2
      obtain ⟨d0, d1, d2, d3⟩ := set4_cells ⟨c2, f2⟩ ⟨c3, f3⟩ ⟨c4, f4⟩ ⟨c5, f5⟩ (.string ⟨#[]⟩) (.string ⟨#[]⟩) (.string ⟨#[]⟩) (.int .i64 70)
      exact ⟨set4_keeps W w.heap.size _ _ _ _, ⟨rfl, HL.out, ⟨d0, d1, d2⟩, d3⟩, set4_below HBB.out (Nat.le_refl _) _ _ _ _⟩
  case done =>
    clear hr he ht hn hs hB0
    rintro D ys W hD rfl ⟨⟨h1, ⟨⟨c2, f2⟩, ⟨c3, f3⟩, ⟨c4, f4⟩⟩, ⟨c5, f5⟩, ⟨⟨c6, f6⟩, ⟨c7, f7⟩, ⟨c8, f8⟩⟩, ⟨c9, f9⟩⟩, hB⟩ hK
    rw [nthL_tag] at c6 c7 c8
    have C := Lib.hid (fun u => Print_any ((partsL (trimL z)).getD 0 []) ((partsL (trimL z)).getD 1 []) ((partsL (trimL z)).getD 2 []) u (Nat.le_trans (nth_len _ _) HTL.out) (Nat.le_trans (nth_len _ _) HTL.out) (Nat.le_trans (nth_len _ _) HTL.out))
    have HV : Hid (parseP z = if printS ((partsL (trimL z)).getD 0 []) ((partsL (trimL z)).getD 1 []) ((partsL (trimL z)).getD 2 []) = some z then some ((partsL (trimL z)).getD 0 [], (partsL (trimL z)).getD 1 [], (partsL (trimL z)).getD 2 []) else none) := by
      show _ = _
      rw [tagL_len] at h1
      unfold parseP
      rw [if_pos h1]
    have HBB := Lib.hid hB
    have hm0 : D < W.heap.size := (Array.getElem?_eq_some_iff.1 hK).1
    clear h1 c9 f9 hB
    generalize (partsL (trimL z)).getD 0 [] = m at *
    generalize (partsL (trimL z)).getD 1 [] = s at *
    generalize (partsL (trimL z)).getD 2 [] = k at *
    have hlt : w.heap.size + 1 < W.heap.size := by omega
    have HK1 : Hid (∀ (ob : Obj) (w6 : World), Below (W.alloc ob).heap.size (W.alloc ob) w6 → w6.heap[D]? = some (.deferred (some []))) := fun ob w6 hb6 =>
      (hb6.block D (by simp; omega)).trans ((Below.heap_alloc W _ D hm0).trans hK)
    have HX : Hid (∀ (M S KK : ByteArray) (w6 : World), Below (W.alloc (.cells #[.string M, .string S, .string KK] 23)).heap.size (W.alloc (.cells #[.string M, .string S, .string KK] 23)) w6 →
        (HoldsA w6 W.heap.size 0 (.string M) ∧ HoldsA w6 W.heap.size 1 (.string S) ∧ HoldsA w6 W.heap.size 2 (.string KK)) ∧
        (HoldsA w6 w.heap.size 0 (.string ⟨#[]⟩) ∧ HoldsA w6 w.heap.size 1 (.string ⟨#[]⟩) ∧ HoldsA w6 w.heap.size 2 (.string ⟨#[]⟩) ∧ HoldsA w6 (w.heap.size + 1) 0 (.int .i64 0)) ∧ Below w.heap.size w w6) := fun M S KK w6 hb6 =>
      ⟨⟨(HoldsA.new W _ _ 0 _ rfl).below hb6 (by simp), (HoldsA.new W _ _ 1 _ rfl).below hb6 (by simp), (HoldsA.new W _ _ 2 _ rfl).below hb6 (by simp)⟩,
       ⟨(HoldsA.alloc ⟨c2, f2⟩ _).below hb6 (by simp; omega), (HoldsA.alloc ⟨c3, f3⟩ _).below hb6 (by simp; omega), (HoldsA.alloc ⟨c4, f4⟩ _).below hb6 (by simp; omega), (HoldsA.alloc ⟨c5, f5⟩ _).below hb6 (by simp; omega)⟩,
       (HBB.out.alloc (by omega) _).trans (hb6.mono (by simp; omega))⟩
    have HD := Lib.hid hD
    have HZ5 := Lib.hid hz5
    clear hK hm0 hlt hD hz5 z5 HTL hz
    clear c2 f2 c3 f3 c4 f4 c5 f5
    by_cases hp : printS m s k = some z
    · rw [if_pos hp] at HV
      rw [hp] at C
      unfold printV at C
      dsimp only at C
      clear hp
      have HV' : Hid (parseV (parseP z) = .tuple #[.agg #[.string ⟨m.toArray⟩, .string ⟨s.toArray⟩, .string ⟨k.toArray⟩], .int .i64 0]) := by
        show _ = _
        rw [HV.out]; rfl
      clear HV
      generalize (⟨m.toArray⟩ : ByteArray) = M at *
      generalize (⟨s.toArray⟩ : ByteArray) = S at *
      generalize (⟨k.toArray⟩ : ByteArray) = KK at *
      gi_wp2_with (refine ⟨trivial, ?_⟩; gi_at_call 14; refine (callsIn_wide.2 (C.out _)).mono ?_; rintro e w6 ⟨rfl, hb6⟩; obtain ⟨⟨⟨g0, g0f⟩, ⟨g1, g1f⟩, ⟨g2, g2f⟩⟩, ⟨⟨c2, f2⟩, ⟨c3, f3⟩, ⟨c4, f4⟩, ⟨c5, f5⟩⟩, hB6⟩ := HX.out _ _ _ _ hb6; have HB6 := Lib.hid hB6; have HK6 := Lib.hid (HK1.out _ _ hb6); clear hb6 hB6)
      have hK' := (set4_keeps w6 w.heap.size (.string M) (.string S) (.string KK) (.int .i64 0)).same D _ HK6.out rfl
      obtain ⟨d0, d1, d2, d3⟩ := set4_cells ⟨c2, f2⟩ ⟨c3, f3⟩ ⟨c4, f4⟩ ⟨c5, f5⟩ (.string M) (.string S) (.string KK) (.int .i64 0)
      refine ⟨by simp, .inl ⟨_, _, rfl, run_takeDeferred hK', ?_⟩⟩
      have k2 := cell_kept d0.1 (grownBy_putObj' _ D (.deferred none)) (fun r e => by cases e; exact ⟨_, hK', rfl⟩)
      have k3 := cell_kept d1.1 (grownBy_putObj' _ D (.deferred none)) (fun r e => by cases e; exact ⟨_, hK', rfl⟩)
      have k4 := cell_kept d2.1 (grownBy_putObj' _ D (.deferred none)) (fun r e => by cases e; exact ⟨_, hK', rfl⟩)
      have k5 := cell_kept d3.1 (grownBy_putObj' _ D (.deferred none)) (fun r e => by cases e; exact ⟨_, hK', rfl⟩)
      refine ⟨.tuple #[.agg #[.string M, .string S, .string KK], .int .i64 0], ?_, by rw [HV'.out], (set4_below HB6.out (Nat.le_refl _) _ _ _ _).trans (belowK_b (w := w) (Nat.le_refl _) _ D _ _ (Nat.le_trans HZ5.out HD.out) hK' rfl rfl)⟩
      rw [show (((w6.setCell ⟨w.heap.size, 0, none⟩ (.string M)).setCell ⟨w.heap.size, 1, none⟩ (.string S)).setCell ⟨w.heap.size, 2, none⟩ (.string KK)).setCell ⟨w.heap.size + 1, 0, none⟩ (.int .i64 0) = set4 w6 w.heap.size (.string M) (.string S) (.string KK) (.int .i64 0) from rfl]
      clear d0 d1 d2 d3 hK'
      generalize set4 w6 w.heap.size (.string M) (.string S) (.string KK) (.int .i64 0) = W9 at *
      simp [results, Try.f17, go_sem, k2, k3, k4, k5]
    · rw [if_neg hp] at HV
      have HV' : Hid (parseV (parseP z) = .tuple #[.agg #[.string ⟨#[]⟩, .string ⟨#[]⟩, .string ⟨#[]⟩], .int .i64 70]) := by
        show _ = _
        rw [HV.out]; rfl
      clear HV
      cases hq : printS m s k with
      | none =>
        rw [hq] at C
        unfold printV at C
        dsimp only at C
        clear hp hq
        generalize (⟨m.toArray⟩ : ByteArray) = M at *
        generalize (⟨s.toArray⟩ : ByteArray) = S at *
        generalize (⟨k.toArray⟩ : ByteArray) = KK at *
        gi_wp2_with (refine ⟨trivial, ?_⟩; gi_at_call 14; refine (callsIn_wide.2 (C.out _)).mono ?_; rintro e w6 ⟨rfl, hb6⟩; obtain ⟨⟨⟨g0, g0f⟩, ⟨g1, g1f⟩, ⟨g2, g2f⟩⟩, ⟨⟨c2, f2⟩, ⟨c3, f3⟩, ⟨c4, f4⟩, ⟨c5, f5⟩⟩, hB6⟩ := HX.out _ _ _ _ hb6; have HB6 := Lib.hid hB6; have HK6 := Lib.hid (HK1.out _ _ hb6); clear hb6 hB6)
        have hK' := (set4_keeps w6 w.heap.size (.string ⟨#[]⟩) (.string ⟨#[]⟩) (.string ⟨#[]⟩) (.int .i64 70)).same D _ HK6.out rfl
        obtain ⟨d0, d1, d2, d3⟩ := set4_cells ⟨c2, f2⟩ ⟨c3, f3⟩ ⟨c4, f4⟩ ⟨c5, f5⟩ (.string ⟨#[]⟩) (.string ⟨#[]⟩) (.string ⟨#[]⟩) (.int .i64 70)
        refine ⟨by simp, .inl ⟨_, _, rfl, run_takeDeferred hK', ?_⟩⟩
        have k2 := cell_kept d0.1 (grownBy_putObj' _ D (.deferred none)) (fun r e => by cases e; exact ⟨_, hK', rfl⟩)
        have k3 := cell_kept d1.1 (grownBy_putObj' _ D (.deferred none)) (fun r e => by cases e; exact ⟨_, hK', rfl⟩)
        have k4 := cell_kept d2.1 (grownBy_putObj' _ D (.deferred none)) (fun r e => by cases e; exact ⟨_, hK', rfl⟩)
        have k5 := cell_kept d3.1 (grownBy_putObj' _ D (.deferred none)) (fun r e => by cases e; exact ⟨_, hK', rfl⟩)
        refine ⟨.tuple #[.agg #[.string ⟨#[]⟩, .string ⟨#[]⟩, .string ⟨#[]⟩], .int .i64 70], ?_, by rw [HV'.out], (set4_below HB6.out (Nat.le_refl _) _ _ _ _).trans (belowK_b (w := w) (Nat.le_refl _) _ D _ _ (Nat.le_trans HZ5.out HD.out) hK' rfl rfl)⟩
        rw [show (((w6.setCell ⟨w.heap.size, 0, none⟩ (.string ⟨#[]⟩)).setCell ⟨w.heap.size, 1, none⟩ (.string ⟨#[]⟩)).setCell ⟨w.heap.size, 2, none⟩ (.string ⟨#[]⟩)).setCell ⟨w.heap.size + 1, 0, none⟩ (.int .i64 70) = set4 w6 w.heap.size (.string ⟨#[]⟩) (.string ⟨#[]⟩) (.string ⟨#[]⟩) (.int .i64 70) from rfl]
        clear d0 d1 d2 d3 hK'
        generalize set4 w6 w.heap.size (.string ⟨#[]⟩) (.string ⟨#[]⟩) (.string ⟨#[]⟩) (.int .i64 70) = W9 at *
        simp [results, Try.f17, go_sem, k2, k3, k4, k5]
      | some y =>
        rw [hq] at C hp
        unfold printV at C
        dsimp only at C
        have t1 := str_ne (a := y) (b := z) (fun e => hp (by rw [e]))
        have t2 := kd_no (k := y) z (fun e => hp (by rw [e]))
        clear hp hq
        generalize (⟨y.toArray⟩ : ByteArray) = Y at *
        generalize (⟨m.toArray⟩ : ByteArray) = M at *
        generalize (⟨s.toArray⟩ : ByteArray) = S at *
        generalize (⟨k.toArray⟩ : ByteArray) = KK at *
        gi_wp2_with (refine ⟨trivial, ?_⟩; gi_at_call 14; refine (callsIn_wide.2 (C.out _)).mono ?_; rintro e w6 ⟨rfl, hb6⟩; obtain ⟨⟨⟨g0, g0f⟩, ⟨g1, g1f⟩, ⟨g2, g2f⟩⟩, ⟨⟨c2, f2⟩, ⟨c3, f3⟩, ⟨c4, f4⟩, ⟨c5, f5⟩⟩, hB6⟩ := HX.out _ _ _ _ hb6; have HB6 := Lib.hid hB6; have HK6 := Lib.hid (HK1.out _ _ hb6); clear hb6 hB6)
        have hK' := (set4_keeps w6 w.heap.size (.string ⟨#[]⟩) (.string ⟨#[]⟩) (.string ⟨#[]⟩) (.int .i64 70)).same D _ HK6.out rfl
        obtain ⟨d0, d1, d2, d3⟩ := set4_cells ⟨c2, f2⟩ ⟨c3, f3⟩ ⟨c4, f4⟩ ⟨c5, f5⟩ (.string ⟨#[]⟩) (.string ⟨#[]⟩) (.string ⟨#[]⟩) (.int .i64 70)
        refine ⟨by simp, .inl ⟨_, _, rfl, run_takeDeferred hK', ?_⟩⟩
        have k2 := cell_kept d0.1 (grownBy_putObj' _ D (.deferred none)) (fun r e => by cases e; exact ⟨_, hK', rfl⟩)
        have k3 := cell_kept d1.1 (grownBy_putObj' _ D (.deferred none)) (fun r e => by cases e; exact ⟨_, hK', rfl⟩)
        have k4 := cell_kept d2.1 (grownBy_putObj' _ D (.deferred none)) (fun r e => by cases e; exact ⟨_, hK', rfl⟩)
        have k5 := cell_kept d3.1 (grownBy_putObj' _ D (.deferred none)) (fun r e => by cases e; exact ⟨_, hK', rfl⟩)
        refine ⟨.tuple #[.agg #[.string ⟨#[]⟩, .string ⟨#[]⟩, .string ⟨#[]⟩], .int .i64 70], ?_, by rw [HV'.out], (set4_below HB6.out (Nat.le_refl _) _ _ _ _).trans (belowK_b (w := w) (Nat.le_refl _) _ D _ _ (Nat.le_trans HZ5.out HD.out) hK' rfl rfl)⟩
        rw [show (((w6.setCell ⟨w.heap.size, 0, none⟩ (.string ⟨#[]⟩)).setCell ⟨w.heap.size, 1, none⟩ (.string ⟨#[]⟩)).setCell ⟨w.heap.size, 2, none⟩ (.string ⟨#[]⟩)).setCell ⟨w.heap.size + 1, 0, none⟩ (.int .i64 70) = set4 w6 w.heap.size (.string ⟨#[]⟩) (.string ⟨#[]⟩) (.string ⟨#[]⟩) (.int .i64 70) from rfl]
        clear d0 d1 d2 d3 hK'
        generalize set4 w6 w.heap.size (.string ⟨#[]⟩) (.string ⟨#[]⟩) (.string ⟨#[]⟩) (.int .i64 70) = W9 at *
        simp [results, Try.f17, go_sem, k2, k3, k4, k5]
  case stop =>
    clear hr he ht hn hs hB0
    rintro D c pre W hD hpre ⟨⟨rfl, h0, ⟨⟨c2, f2⟩, ⟨c3, f3⟩, ⟨c4, f4⟩⟩, ⟨c5, f5⟩⟩, hB⟩ hK
    have HV : Hid (parseP z = none) := by
      show _ = _
      have := hpre.length_le
      rw [tagL_len, h0] at this
      unfold parseP
      rw [if_neg (by omega)]
    have HBB := Lib.hid hB
    clear h0 hpre hB
    rw [HV.out]
    gi_wp2
    refine ⟨by simp, .inl ⟨_, _, rfl, run_takeDeferred hK, ?_⟩⟩
    have k2 := cell_kept c2 (grownBy_putObj' _ D (.deferred none)) (fun r e => by cases e; exact ⟨_, hK, rfl⟩)
    have k3 := cell_kept c3 (grownBy_putObj' _ D (.deferred none)) (fun r e => by cases e; exact ⟨_, hK, rfl⟩)
    have k4 := cell_kept c4 (grownBy_putObj' _ D (.deferred none)) (fun r e => by cases e; exact ⟨_, hK, rfl⟩)
    have k5 := cell_kept c5 (grownBy_putObj' _ D (.deferred none)) (fun r e => by cases e; exact ⟨_, hK, rfl⟩)
    refine ⟨parseV none, ?_, rfl, HBB.out.trans (belowK_b (w := w) (Nat.le_refl _) W D _ _ (by omega) hK rfl rfl)⟩
    simp [results, Try.f17, go_sem, parseV, k2, k3, k4, k5]
end Go.Proofs.Ytnjcfnmdelpecaa.Tp
