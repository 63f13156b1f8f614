import Derived.Test.YtafmnoeljefpaaaMr
import Derived.Test.YtafmnoeljefpaaaFj
/- What lies between the operations of the drawn regions of FieldOrder: one more in front. -/
set_option linter.unusedVariables false
set_option linter.unusedSimpArgs false
namespace Go.Proofs.Ytafmnoeljefpaaa.Js
open Go.RowKit Lex

theorem wpOp_here {P : Program} {ops : Array Oper} {Q : Exit → Act → World → Prop} {i : Nat} {K : Act → World → Prop} {a : Act} {w : World} {o : Oper} (ho : ops[i]? = some o)
    (h : ∀ K' : Act → World → Prop, (∀ a w, K a w → K' a w) → if Region.wanted o (yielded ops a.tmps) = true then Oper.wp P o a w K' Q else K' (a.put o.dst undef) w) : wpOp P ops Q i K a w := by
  have := h K (fun _ _ h => h)
  unfold wpOp
  rw [ho]
  by_cases hw : Region.wanted o (yielded ops a.tmps) = true
  · rw [if_pos hw] at this
    simp only [hw, if_true]
    exact .inl this
  · rw [if_neg hw] at this
    simp only [hw]
    exact this
theorem own3_cells {base n : Nat} {nv iv : Value} {ns : List (List UInt8)} {vs : List Value} {acc : List J} {w : World} (h : Own3 base n nv iv ns vs acc w) : ∀ u ∈ vs.flatMap aggC, u.oneCell' = true := by
  intro u hu
  obtain ⟨v, hv, hu⟩ := List.mem_flatMap.1 hu
  obtain ⟨i, hi, rfl⟩ := List.mem_iff_getElem.1 hv
  have hJ := h.items i (by rw [← h.vl]; exact hi)
  obtain ⟨k, m, e, t, an, nn, cn, ai, ni, ci, e1⟩ := jAt_form hJ
  rw [List.getD_eq_getElem?_getD, List.getElem?_eq_getElem hi] at e1
  simp only [Option.getD_some] at e1
  rw [e1] at hu
  simp [aggC] at hu
  rcases hu with rfl | rfl | rfl | rfl | rfl | rfl <;> rfl
def upd (L : Nat → Bool) (k : Nat) : Nat → Bool := fun j => if k = j then true else L j
def lst (l : Array Bool) : Nat → Bool := fun j => l.getD j false
theorem lst_set {l : Array Bool} {k : Nat} (h : k < l.size) : lst (l.setIfInBounds k true) = upd (lst l) k := by
  funext j
  show (l.setIfInBounds k true).getD j false = if k = j then true else l.getD j false
  rw [Array.getD_eq_getD_getElem?, Array.getD_eq_getD_getElem?, Array.getElem?_setIfInBounds]
  by_cases e : k = j
  · subst e
    simp [h]
  · simp [e]
def rowOf : Value → Value
  | .pointer (some a) => .slice (some ⟨a.block, 0, none⟩) 1 1
  | _ => .slice none 0 0
def zeroL : List Value := [.int .i64 0, .int .i64 0, .int .i64 0, .string ⟨#[]⟩, .slice none 0 0, .slice none 0 0]
/-- A value in a box of one's own. -/
def VB (wS : World) (j : J) (p : Value) (w : World) : Prop :=
  ∃ g k m e t an nn cn ai ni ci, p = .pointer (some ⟨g, 0, none⟩) ∧ Below wS.heap.size wS w ∧ w.heap[g]? = some (.cells #[.int .i64 k, .int .i64 m, .int .i64 e, .string t, .slice an nn cn, .slice ai ni ci] 35 (0, 0)) ∧
    JAt Any w 16 (.agg #[.int .i64 k, .int .i64 m, .int .i64 e, .string t, .slice an nn cn, .slice ai ni ci]) j
def os20 (more : List UInt8) (ns : List (List UInt8)) (Y ys : List Value) (na : Nat) (L : Nat → Bool) (u81 u83 u85 u87 s16 : Value) : List Ob :=
  [⟨L 1, if L 3 = true then u83 else u81, 9, 1, if L 3 = true then 1 + ns.length else 1, if L 3 = true then strW more :: ns.map strW else [strW more]⟩,
   ⟨L 5, if L 7 = true then u87 else u85, 35, 6, if L 7 = true then 1 + na else 1, if L 7 = true then Y ++ ys else Y⟩,
   ⟨L 9, rowOf s16, 35, 6, 1, zeroL⟩]
structure F20 (wS : World) (nmV itV : Value) (more : List UInt8) (ns : List (List UInt8)) (Y : Array Value) (ys : List Value) (na : Nat) (jA : J) (L : Nat → Bool) (u80 u81 u82 u83 u84 u85 u86 u87 u88 s16 : Value) (w : World) : Prop where
  bel : Below wS.heap.size wS w
  f0 : L 0 = true → u80 = .string ⟨more.toArray⟩
  f2 : L 2 = true → u82 = nmV
  f4 : L 4 = true → u84 = .agg Y
  f6 : L 6 = true → u86 = itV
  o3 : L 3 = true → L 1 = true
  o7 : L 7 = true → L 5 = true ∧ L 3 = true
  o8 : L 8 = true → L 3 = true ∧ L 7 = true
  o10 : L 10 = true → L 0 = true ∧ L 1 = true ∧ L 2 = true ∧ L 4 = true ∧ L 5 = true ∧ L 6 = true ∧ L 8 = true ∧ L 9 = true
  led : L 10 = false → Led wS.heap.size w (os20 more ns Y.toList ys na L u81 u83 u85 u87 s16)
  ptr : L 9 = true → ∃ g, s16 = .pointer (some ⟨g, 0, none⟩)
  r8 : L 8 = true → L 10 = false → ∃ k m e t an nn cn ai ni ci, u88 = .agg #[.int .i64 k, .int .i64 m, .int .i64 e, .string t, .slice an nn cn, .slice ai ni ci] ∧ JAt (fun b => L 9 = true → s16 ≠ .pointer (some ⟨b, 0, none⟩)) w 16 u88 jA
  fin : L 10 = true → VB wS jA s16 w
section
variable {wS : World} {nmV itV : Value} {more : List UInt8} {ns : List (List UInt8)} {Y : Array Value} {ys : List Value} {na : Nat} {jA : J} {L : Nat → Bool} {u80 u81 u82 u83 u84 u85 u86 u87 u88 s16 : Value} {w : World}
theorem F20.start (hs : wS.heap.size ≤ wS.heap.size) : F20 wS nmV itV more ns Y ys na jA (fun _ => false) u80 u81 u82 u83 u84 u85 u86 u87 u88 s16 wS.drew := by
  have hd : ∀ (i : Nat) (o : Ob), (os20 more ns Y.toList ys na (fun _ => false) u81 u83 u85 u87 s16)[i]? = some o → o.live = false := fun i o ho => by
    have : o ∈ os20 more ns Y.toList ys na (fun _ => false) u81 u83 u85 u87 s16 := List.mem_of_getElem? ho
    simp [os20] at this
    rcases this with rfl | rfl | rfl <;> rfl
  exact ⟨(Below.refl _ _).drew, fun e => (by cases e), fun e => (by cases e), fun e => (by cases e), fun e => (by cases e), fun e => (by cases e), fun e => (by cases e), fun e => (by cases e), fun e => (by cases e),
    fun _ => ⟨fun i o ho hl => (by rw [hd i o ho] at hl; cases hl), fun i j o p _ ho _ hl _ => (by rw [hd i o ho] at hl; cases hl)⟩, fun e => (by cases e), fun e => (by cases e), fun e => (by cases e)⟩
theorem F20.m0 (h : F20 wS nmV itV more ns Y ys na jA L u80 u81 u82 u83 u84 u85 u86 u87 u88 s16 w) (hk : L 0 = false) : F20 wS nmV itV more ns Y ys na jA (upd L 0) (.string ⟨more.toArray⟩) u81 u82 u83 u84 u85 u86 u87 u88 s16 w := by
  have hN : ¬ L 10 = true := fun x => by have e := h.o10 x; rw [e.1] at hk; cases hk
  have hN' : L 10 = false := by simpa using hN
  exact ⟨h.bel, fun _ => rfl, fun e => h.f2 e, fun e => h.f4 e, fun e => h.f6 e, fun e => h.o3 e, fun e => h.o7 e, fun e => h.o8 e, fun e => absurd (show L 10 = true from e) hN, fun _ => h.led hN', fun e => h.ptr e, fun e _ => h.r8 e hN', fun e => absurd (show L 10 = true from e) hN⟩
theorem F20.m2 (h : F20 wS nmV itV more ns Y ys na jA L u80 u81 u82 u83 u84 u85 u86 u87 u88 s16 w) (hk : L 2 = false) : F20 wS nmV itV more ns Y ys na jA (upd L 2) u80 u81 nmV u83 u84 u85 u86 u87 u88 s16 w := by
  have hN : ¬ L 10 = true := fun x => by have e := h.o10 x; rw [e.2.2.1] at hk; cases hk
  have hN' : L 10 = false := by simpa using hN
  exact ⟨h.bel, fun e => h.f0 e, fun _ => rfl, fun e => h.f4 e, fun e => h.f6 e, fun e => h.o3 e, fun e => h.o7 e, fun e => h.o8 e, fun e => absurd (show L 10 = true from e) hN, fun _ => h.led hN', fun e => h.ptr e, fun e _ => h.r8 e hN', fun e => absurd (show L 10 = true from e) hN⟩
theorem F20.m4 (h : F20 wS nmV itV more ns Y ys na jA L u80 u81 u82 u83 u84 u85 u86 u87 u88 s16 w) (hk : L 4 = false) : F20 wS nmV itV more ns Y ys na jA (upd L 4) u80 u81 u82 u83 (.agg Y) u85 u86 u87 u88 s16 w := by
  have hN : ¬ L 10 = true := fun x => by have e := h.o10 x; rw [e.2.2.2.1] at hk; cases hk
  have hN' : L 10 = false := by simpa using hN
  exact ⟨h.bel, fun e => h.f0 e, fun e => h.f2 e, fun _ => rfl, fun e => h.f6 e, fun e => h.o3 e, fun e => h.o7 e, fun e => h.o8 e, fun e => absurd (show L 10 = true from e) hN, fun _ => h.led hN', fun e => h.ptr e, fun e _ => h.r8 e hN', fun e => absurd (show L 10 = true from e) hN⟩
theorem F20.m6 (h : F20 wS nmV itV more ns Y ys na jA L u80 u81 u82 u83 u84 u85 u86 u87 u88 s16 w) (hk : L 6 = false) : F20 wS nmV itV more ns Y ys na jA (upd L 6) u80 u81 u82 u83 u84 u85 itV u87 u88 s16 w := by
  have hN : ¬ L 10 = true := fun x => by have e := h.o10 x; rw [e.2.2.2.2.2.1] at hk; cases hk
  have hN' : L 10 = false := by simpa using hN
  exact ⟨h.bel, fun e => h.f0 e, fun e => h.f2 e, fun e => h.f4 e, fun _ => rfl, fun e => h.o3 e, fun e => h.o7 e, fun e => h.o8 e, fun e => absurd (show L 10 = true from e) hN, fun _ => h.led hN', fun e => h.ptr e, fun e _ => h.r8 e hN', fun e => absurd (show L 10 = true from e) hN⟩
theorem F20.m1 (h : F20 wS nmV itV more ns Y ys na jA L u80 u81 u82 u83 u84 u85 u86 u87 u88 s16 w) (hk : L 1 = false) : F20 wS nmV itV more ns Y ys na jA (upd L 1) u80 (.slice (some ⟨w.heap.size, 0, none⟩) 1 1) u82 u83 u84 u85 u86 u87 u88 s16 (w.alloc (.cells #[strW more] 9)) := by
  have hN : ¬ L 10 = true := fun x => by have e := h.o10 x; rw [e.2.1] at hk; cases hk
  have hN' : L 10 = false := by simpa using hN
  have h3 : ¬ L 3 = true := fun x => by rw [h.o3 x] at hk; cases hk
  have h3' : L 3 = false := by simpa using h3
  have hled := (h.led hN').new (w' := w.alloc (.cells #[strW more] 9)) (belowOne _ _) 0 ⟨true, .slice (some ⟨w.heap.size, 0, none⟩) 1 1, 9, 1, 1, [strW more]⟩ (row_new w _ _ 1 1 #[strW more] h.bel.size rfl (by decide)) (fun g hg => by cases hg; exact Nat.le_refl _)
  have e1 : (os20 more ns Y.toList ys na L u81 u83 u85 u87 s16).set 0 ⟨true, .slice (some ⟨w.heap.size, 0, none⟩) 1 1, 9, 1, 1, [strW more]⟩ = os20 more ns Y.toList ys na (upd L 1) (.slice (some ⟨w.heap.size, 0, none⟩) 1 1) u83 u85 u87 s16 := by
    simp [os20, upd, h3']
  rw [e1] at hled
  exact ⟨h.bel.trans ((belowOne _ _).mono h.bel.size), fun e => h.f0 e, fun e => h.f2 e, fun e => h.f4 e, fun e => h.f6 e, fun e => rfl, fun e => h.o7 e, fun e => h.o8 e, fun e => absurd (show L 10 = true from e) hN, fun _ => hled, fun e => h.ptr e, fun e _ => absurd (h.o8 e).1 h3, fun e => absurd (show L 10 = true from e) hN⟩
theorem F20.m5 (h : F20 wS nmV itV more ns Y ys na jA L u80 u81 u82 u83 u84 u85 u86 u87 u88 s16 w) (hk : L 5 = false) (hY : Y.size = 6) : F20 wS nmV itV more ns Y ys na jA (upd L 5) u80 u81 u82 u83 u84 (.slice (some ⟨w.heap.size, 0, none⟩) 1 1) u86 u87 u88 s16 (w.alloc (.cells Y 35)) := by
  have hN : ¬ L 10 = true := fun x => by have e := h.o10 x; rw [e.2.2.2.2.1] at hk; cases hk
  have hN' : L 10 = false := by simpa using hN
  have h3 : ¬ L 7 = true := fun x => by rw [(h.o7 x).1] at hk; cases hk
  have h3' : L 7 = false := by simpa using h3
  have hled := (h.led hN').new (w' := w.alloc (.cells Y 35)) (belowOne _ _) 1 ⟨true, .slice (some ⟨w.heap.size, 0, none⟩) 1 1, 35, 6, 1, Y.toList⟩ (row_new w _ _ 6 1 Y h.bel.size (by omega) (by decide)) (fun g hg => by cases hg; exact Nat.le_refl _)
  have e1 : (os20 more ns Y.toList ys na L u81 u83 u85 u87 s16).set 1 ⟨true, .slice (some ⟨w.heap.size, 0, none⟩) 1 1, 35, 6, 1, Y.toList⟩ = os20 more ns Y.toList ys na (upd L 5) u81 u83 (.slice (some ⟨w.heap.size, 0, none⟩) 1 1) u87 s16 := by
    simp [os20, upd, h3']
  rw [e1] at hled
  exact ⟨h.bel.trans ((belowOne _ _).mono h.bel.size), fun e => h.f0 e, fun e => h.f2 e, fun e => h.f4 e, fun e => h.f6 e, fun e => h.o3 e, fun e => ⟨rfl, (h.o7 e).2⟩, fun e => h.o8 e, fun e => absurd (show L 10 = true from e) hN, fun _ => hled, fun e => h.ptr e, fun e _ => absurd (h.o8 e).2 h3, fun e => absurd (show L 10 = true from e) hN⟩
theorem F20.m9 (h : F20 wS nmV itV more ns Y ys na jA L u80 u81 u82 u83 u84 u85 u86 u87 u88 s16 w) (hk : L 9 = false) : F20 wS nmV itV more ns Y ys na jA (upd L 9) u80 u81 u82 u83 u84 u85 u86 u87 u88 (.pointer (some ⟨w.heap.size, 0, none⟩)) (w.alloc (.cells zeroL.toArray 35)) := by
  have hN : ¬ L 10 = true := fun x => by have e := h.o10 x; rw [e.2.2.2.2.2.2.2] at hk; cases hk
  have hN' : L 10 = false := by simpa using hN
  have hled := (h.led hN').new (w' := w.alloc (.cells zeroL.toArray 35)) (belowOne _ _) 2 ⟨true, .slice (some ⟨w.heap.size, 0, none⟩) 1 1, 35, 6, 1, zeroL⟩ (row_new w _ _ 6 1 zeroL.toArray h.bel.size rfl (by decide)) (fun g hg => by cases hg; exact Nat.le_refl _)
  have e1 : (os20 more ns Y.toList ys na L u81 u83 u85 u87 s16).set 2 ⟨true, .slice (some ⟨w.heap.size, 0, none⟩) 1 1, 35, 6, 1, zeroL⟩ = os20 more ns Y.toList ys na (upd L 9) u81 u83 u85 u87 (.pointer (some ⟨w.heap.size, 0, none⟩)) := by
    simp [os20, upd, rowOf]
  rw [e1] at hled
  exact ⟨h.bel.trans ((belowOne _ _).mono h.bel.size), fun e => h.f0 e, fun e => h.f2 e, fun e => h.f4 e, fun e => h.f6 e, fun e => h.o3 e, fun e => h.o7 e, fun e => h.o8 e, fun e => absurd (show L 10 = true from e) hN, fun _ => hled, fun _ => ⟨_, rfl⟩, fun e _ => by
    obtain ⟨k, m, e', t, an, nn, cn, ai, ni, ci, h1, h2⟩ := h.r8 e hN'
    exact ⟨k, m, e', t, an, nn, cn, ai, ni, ci, h1, h2.keep (fun b _ hb _ hx => by cases hx; exact absurd hb (Nat.lt_irrefl _)) (fun b _ hb => (belowOne w _).block b hb) (belowOne w _).size⟩, fun e => absurd (show L 10 = true from e) hN⟩
/-- Names behind the one in front. -/
theorem F20.m3 {v' : Value} {w' : World} (h : F20 wS nmV itV more ns Y ys na jA L u80 u81 u82 u83 u84 u85 u86 u87 u88 s16 w) (hk : L 3 = false) (h1 : L 1 = true) (hown : w'.ownsRow wS.heap.size 9 1 v' (1 + ns.length) ([strW more] ++ ns.map strW)) (hg : w.grownBy w' u81.ownBlock) (hat : v'.ownBlock = u81.ownBlock ∨ v'.ownBlock = some w.heap.size) : F20 wS nmV itV more ns Y ys na jA (upd L 3) u80 u81 u82 v' u84 u85 u86 u87 u88 s16 w' := by
  have h8 : ¬ L 8 = true := fun x => by have e := (h.o8 x).1; rw [e] at hk; cases hk
  have h7 : ¬ L 7 = true := fun x => by have e := (h.o7 x).2; rw [e] at hk; cases hk
  have hN : ¬ L 10 = true := fun x => h8 (h.o10 x).2.2.2.2.2.2.1
  have hN' : L 10 = false := by simpa using hN
  have hr0 := (h.led hN').row 0 ⟨true, u81, 9, 1, 1, [strW more]⟩ (by simp [os20, h1, hk]) rfl
  have hled := (h.led hN').grow 0 ⟨true, u81, 9, 1, 1, [strW more]⟩ ⟨true, v', 9, 1, 1 + ns.length, strW more :: ns.map strW⟩ (by simp [os20, h1, hk]) rfl hown hg hat
  have e1 : (os20 more ns Y.toList ys na L u81 u83 u85 u87 s16).set 0 ⟨true, v', 9, 1, 1 + ns.length, strW more :: ns.map strW⟩ = os20 more ns Y.toList ys na (upd L 3) u81 v' u85 u87 s16 := by
    simp [os20, upd, h1]
  rw [e1] at hled
  exact ⟨h.bel.grown hg h.bel.size (fun g e => row_ge hr0 e), fun e => h.f0 e, fun e => h.f2 e, fun e => h.f4 e, fun e => h.f6 e, fun _ => h1, fun e => absurd e h7, fun e => absurd e h8, fun e => absurd (show L 10 = true from e) hN, fun _ => hled, fun e => h.ptr e, fun e _ => absurd e h8, fun e => absurd (show L 10 = true from e) hN⟩
/-- Items behind the one in front. -/
theorem F20.m7 {v' : Value} {w' : World} (h : F20 wS nmV itV more ns Y ys na jA L u80 u81 u82 u83 u84 u85 u86 u87 u88 s16 w) (hk : L 7 = false) (h5 : L 5 = true) (h3 : L 3 = true) (hown : w'.ownsRow wS.heap.size 35 6 v' (1 + na) (Y.toList ++ ys)) (hg : w.grownBy w' u85.ownBlock) (hat : v'.ownBlock = u85.ownBlock ∨ v'.ownBlock = some w.heap.size) : F20 wS nmV itV more ns Y ys na jA (upd L 7) u80 u81 u82 u83 u84 u85 u86 v' u88 s16 w' := by
  have h8 : ¬ L 8 = true := fun x => by have e := (h.o8 x).2; rw [e] at hk; cases hk
  have hN : ¬ L 10 = true := fun x => h8 (h.o10 x).2.2.2.2.2.2.1
  have hN' : L 10 = false := by simpa using hN
  have hr0 := (h.led hN').row 1 ⟨true, u85, 35, 6, 1, Y.toList⟩ (by simp [os20, h5, hk]) rfl
  have hled := (h.led hN').grow 1 ⟨true, u85, 35, 6, 1, Y.toList⟩ ⟨true, v', 35, 6, 1 + na, Y.toList ++ ys⟩ (by simp [os20, h5, hk]) rfl hown hg hat
  have e1 : (os20 more ns Y.toList ys na L u81 u83 u85 u87 s16).set 1 ⟨true, v', 35, 6, 1 + na, Y.toList ++ ys⟩ = os20 more ns Y.toList ys na (upd L 7) u81 u83 u85 v' s16 := by
    simp [os20, upd, h5]
  rw [e1] at hled
  exact ⟨h.bel.grown hg h.bel.size (fun g e => row_ge hr0 e), fun e => h.f0 e, fun e => h.f2 e, fun e => h.f4 e, fun e => h.f6 e, fun e => h.o3 e, fun _ => ⟨h5, h3⟩, fun e => absurd e h8, fun e => absurd (show L 10 = true from e) hN, fun _ => hled, fun e => h.ptr e, fun e _ => absurd e h8, fun e => absurd (show L 10 = true from e) hN⟩
/-- What Make answers. -/
theorem F20.m8 {w' : World} {k m e' : Int} {t : ByteArray} {an : Option Addr} {nn cn : Nat} {ai : Option Addr} {ni ci : Nat} (h : F20 wS nmV itV more ns Y ys na jA L u80 u81 u82 u83 u84 u85 u86 u87 u88 s16 w) (hk : L 8 = false) (h3 : L 3 = true) (h7 : L 7 = true) (hb : Below w.heap.size w w')
    (hJ : JAt (fun b => w.heap.size ≤ b) w' 16 (.agg #[.int .i64 k, .int .i64 m, .int .i64 e', .string t, .slice an nn cn, .slice ai ni ci]) jA) : F20 wS nmV itV more ns Y ys na jA (upd L 8) u80 u81 u82 u83 u84 u85 u86 u87 (.agg #[.int .i64 k, .int .i64 m, .int .i64 e', .string t, .slice an nn cn, .slice ai ni ci]) s16 w' := by
  have hN : ¬ L 10 = true := fun x => by have e := (h.o10 x).2.2.2.2.2.2.1; rw [e] at hk; cases hk
  have hN' : L 10 = false := by simpa using hN
  have hS : ∀ b, w.heap.size ≤ b → (L 9 = true → s16 ≠ .pointer (some ⟨b, 0, none⟩)) := fun b hb h9 hx => by
    have hr := (h.led hN').row 2 ⟨L 9, rowOf s16, 35, 6, 1, zeroL⟩ rfl h9
    have := own_lt hr (g := b) (by rw [hx]; rfl)
    omega
  exact ⟨h.bel.trans (hb.mono h.bel.size), fun e => h.f0 e, fun e => h.f2 e, fun e => h.f4 e, fun e => h.f6 e, fun e => h.o3 e, fun e => h.o7 e, fun _ => ⟨h3, h7⟩, fun e => absurd (show L 10 = true from e) hN, fun _ => (h.led hN').below hb, fun e => h.ptr e, fun _ _ => ⟨k, m, e', t, an, nn, cn, ai, ni, ci, rfl, hJ.keep (fun b h1 _ => hS b h1) (fun _ _ _ => rfl) (Nat.le_refl _)⟩, fun e => absurd (show L 10 = true from e) hN⟩
/-- The box, as it lies. -/
theorem F20.box (h : F20 wS nmV itV more ns Y ys na jA L u80 u81 u82 u83 u84 u85 u86 u87 u88 s16 w) (hk : L 10 = false) (h9 : L 9 = true) : ∃ g, s16 = .pointer (some ⟨g, 0, none⟩) ∧ wS.heap.size ≤ g ∧ w.heap[g]? = some (.cells #[.int .i64 0, .int .i64 0, .int .i64 0, .string ⟨#[]⟩, .slice none 0 0, .slice none 0 0] 35 (0, 0)) := by
  obtain ⟨g, hg⟩ := h.ptr h9
  refine ⟨g, hg, ?_⟩
  have hr := (h.led hk).row 2 ⟨L 9, rowOf s16, 35, 6, 1, zeroL⟩ rfl h9
  rw [hg] at hr
  rcases hr.2 with ⟨e, _⟩ | ⟨g', cap, cur, hv, hb, hh, _, _, hcs, htk⟩
  · cases e
  · cases hv
    refine ⟨hb, ?_⟩
    rw [hh]
    have : cur = #[.int .i64 0, .int .i64 0, .int .i64 0, .string ⟨#[]⟩, .slice none 0 0, .slice none 0 0] := by
      apply Array.ext'
      have h6 : cur.size = 6 := hcs
      have h7 : cur.toList.take 6 = zeroL := htk
      rw [List.take_of_length_le (by rw [Array.length_toList]; omega)] at h7
      exact h7
    rw [this]
/-- It is stored. -/
theorem F20.m10 {g : Nat} {k m e' : Int} {t : ByteArray} {an : Option Addr} {nn cn : Nat} {ai : Option Addr} {ni ci : Nat} (h : F20 wS nmV itV more ns Y ys na jA L u80 u81 u82 u83 u84 u85 u86 u87 u88 s16 w) (hk : L 10 = false) (hall : L 0 = true ∧ L 1 = true ∧ L 2 = true ∧ L 4 = true ∧ L 5 = true ∧ L 6 = true ∧ L 8 = true ∧ L 9 = true) (hg : s16 = .pointer (some ⟨g, 0, none⟩)) (hge : wS.heap.size ≤ g) (hh : w.heap[g]? = some (.cells #[.int .i64 0, .int .i64 0, .int .i64 0, .string ⟨#[]⟩, .slice none 0 0, .slice none 0 0] 35 (0, 0)))
    (hu : u88 = .agg #[.int .i64 k, .int .i64 m, .int .i64 e', .string t, .slice an nn cn, .slice ai ni ci]) (hJ : JAt (fun b => L 9 = true → s16 ≠ .pointer (some ⟨b, 0, none⟩)) w 16 u88 jA) : F20 wS nmV itV more ns Y ys na jA (upd L 10) u80 u81 u82 u83 u84 u85 u86 u87 u88 s16 (put6 w g 0 (.int .i64 k) (.int .i64 m) (.int .i64 e') (.string t) (.slice an nn cn) (.slice ai ni ci)) := by
  have hb := below_put6' h.bel hge (.int .i64 k) (.int .i64 m) (.int .i64 e') (.string t) (.slice an nn cn) (.slice ai ni ci)
  exact ⟨hb, fun e => h.f0 e, fun e => h.f2 e, fun e => h.f4 e, fun e => h.f6 e, fun e => h.o3 e, fun e => h.o7 e, fun e => h.o8 e, fun _ => hall, fun e => absurd (show true = false from e) (by decide), fun e => h.ptr e, fun _ e => absurd (show true = false from e) (by decide), fun _ => ⟨g, k, m, e', t, an, nn, cn, ai, ni, ci, hg, hb, put6_self hh _ _ _ _ _ _, by
    rw [← hu]
    exact hJ.keep (S' := Any) (fun _ _ _ => trivial) (fun b h1 _ => put6_block _ _ 0 _ _ _ _ _ _ b (fun e => h1 hall.2.2.2.2.2.2.2 (by rw [hg, e]))) (by rw [put6_size]; exact Nat.le_refl _)⟩⟩
end
end Go.Proofs.Ytafmnoeljefpaaa.Js
