import Derived.Test.YtafmnoeljefpaaaRe
/- What lies between the operations of FieldOrder's second drawn region: one more behind. -/
set_option linter.unusedVariables false
set_option linter.unusedSimpArgs false
namespace Go.Proofs.Ytafmnoeljefpaaa.Js
open Go.RowKit Lex

def os21 (more : List UInt8) (ns : List (List UInt8)) (Y ys : List Value) (na : Nat) (L : Nat → Bool) (v90 v92 v93 v95 v97 v98 s17 : Value) : List Ob :=
  [⟨L 1, if L 4 = true then v93 else v90, 9, 1, if L 4 = true then ns.length + 1 else ns.length, if L 4 = true then ns.map strW ++ [strW more] else ns.map strW⟩,
   ⟨L 3, v92, 9, 1, 1, [strW more]⟩,
   ⟨L 6, if L 9 = true then v98 else v95, 35, 6, if L 9 = true then na + 1 else na, if L 9 = true then ys ++ Y else ys⟩,
   ⟨L 8, v97, 35, 6, 1, Y⟩,
   ⟨L 11, rowOf s17, 35, 6, 1, zeroL⟩]
structure F21 (wS : World) (nmV itV : Value) (more : List UInt8) (ns : List (List UInt8)) (Y : Array Value) (ys : List Value) (na : Nat) (jA : J) (L : Nat → Bool) (v89 v90 v91 v92 v93 v94 v95 v96 v97 v98 v99 s17 : Value) (w : World) : Prop where
  bel : Below wS.heap.size wS w
  g0 : L 0 = true → v89 = nmV
  g2 : L 2 = true → v91 = .string ⟨more.toArray⟩
  g5 : L 5 = true → v94 = itV
  g7 : L 7 = true → v96 = .agg Y
  p4 : L 4 = true → L 1 = true ∧ L 3 = true
  p6 : L 6 = true → L 4 = true
  p9 : L 9 = true → L 6 = true ∧ L 8 = true
  p10 : L 10 = true → L 4 = true ∧ L 9 = true
  p12 : L 12 = true → L 0 = true ∧ L 1 = true ∧ L 2 = true ∧ L 3 = true ∧ L 4 = true ∧ L 5 = true ∧ L 6 = true ∧ L 7 = true ∧ L 8 = true ∧ L 9 = true ∧ L 10 = true ∧ L 11 = true
  led : L 12 = false → Led wS.heap.size w (os21 more ns Y.toList ys na L v90 v92 v93 v95 v97 v98 s17)
  ptr : L 11 = true → ∃ g, s17 = .pointer (some ⟨g, 0, none⟩)
  r10 : L 10 = true → L 12 = false → ∃ k m e t an nn cn ai ni ci, v99 = .agg #[.int .i64 k, .int .i64 m, .int .i64 e, .string t, .slice an nn cn, .slice ai ni ci] ∧ JAt (fun b => L 11 = true → s17 ≠ .pointer (some ⟨b, 0, none⟩)) w 16 v99 jA
  fin : L 12 = true → VB wS jA s17 w
section
variable {wS : World} {nmV itV : Value} {more : List UInt8} {ns : List (List UInt8)} {Y : Array Value} {ys : List Value} {na : Nat} {jA : J} {L : Nat → Bool} {v89 v90 v91 v92 v93 v94 v95 v96 v97 v98 v99 s17 : Value} {w : World}
theorem F21.start : F21 wS nmV itV more ns Y ys na jA (fun _ => false) v89 v90 v91 v92 v93 v94 v95 v96 v97 v98 v99 s17 wS.drew := by
  have hd : ∀ (i : Nat) (o : Ob), (os21 more ns Y.toList ys na (fun _ => false) v90 v92 v93 v95 v97 v98 s17)[i]? = some o → o.live = false := fun i o ho => by
    have : o ∈ os21 more ns Y.toList ys na (fun _ => false) v90 v92 v93 v95 v97 v98 s17 := List.mem_of_getElem? ho
    simp [os21] at this
    rcases this with rfl | rfl | rfl | rfl | rfl <;> rfl
  exact ⟨(Below.refl _ _).drew, fun e => (by cases e), fun e => (by cases e), fun e => (by cases e), fun e => (by cases e), fun e => (by cases e), fun e => (by cases e), fun e => (by cases e), fun e => (by cases e), fun e => (by cases e), fun _ => ⟨fun i o ho hl => (by rw [hd i o ho] at hl; cases hl), fun i j o p _ ho _ hl _ => (by rw [hd i o ho] at hl; cases hl)⟩, fun e => (by cases e), fun e => (by cases e), fun e => (by cases e)⟩
theorem F21.m0 (h : F21 wS nmV itV more ns Y ys na jA L v89 v90 v91 v92 v93 v94 v95 v96 v97 v98 v99 s17 w) (hk : L 0 = false) : F21 wS nmV itV more ns Y ys na jA (upd L 0) nmV v90 v91 v92 v93 v94 v95 v96 v97 v98 v99 s17 w := by
  have hN : ¬ L 12 = true := fun x => by have e := h.p12 x; rw [e.1] at hk; cases hk
  have hN' : L 12 = false := by simpa using hN
  exact ⟨h.bel, fun _ => rfl, fun e => h.g2 e, fun e => h.g5 e, fun e => h.g7 e, fun e => h.p4 e, fun e => h.p6 e, fun e => h.p9 e, fun e => h.p10 e, fun e => absurd (show L 12 = true from e) hN, fun _ => h.led hN', fun e => h.ptr e, fun e _ => h.r10 e hN', fun e => absurd (show L 12 = true from e) hN⟩
theorem F21.m2 (h : F21 wS nmV itV more ns Y ys na jA L v89 v90 v91 v92 v93 v94 v95 v96 v97 v98 v99 s17 w) (hk : L 2 = false) : F21 wS nmV itV more ns Y ys na jA (upd L 2) v89 v90 (.string ⟨more.toArray⟩) v92 v93 v94 v95 v96 v97 v98 v99 s17 w := by
  have hN : ¬ L 12 = true := fun x => by have e := h.p12 x; rw [e.2.2.1] at hk; cases hk
  have hN' : L 12 = false := by simpa using hN
  exact ⟨h.bel, fun e => h.g0 e, fun _ => rfl, fun e => h.g5 e, fun e => h.g7 e, fun e => h.p4 e, fun e => h.p6 e, fun e => h.p9 e, fun e => h.p10 e, fun e => absurd (show L 12 = true from e) hN, fun _ => h.led hN', fun e => h.ptr e, fun e _ => h.r10 e hN', fun e => absurd (show L 12 = true from e) hN⟩
theorem F21.m5 (h : F21 wS nmV itV more ns Y ys na jA L v89 v90 v91 v92 v93 v94 v95 v96 v97 v98 v99 s17 w) (hk : L 5 = false) : F21 wS nmV itV more ns Y ys na jA (upd L 5) v89 v90 v91 v92 v93 itV v95 v96 v97 v98 v99 s17 w := by
  have hN : ¬ L 12 = true := fun x => by have e := h.p12 x; rw [e.2.2.2.2.2.1] at hk; cases hk
  have hN' : L 12 = false := by simpa using hN
  exact ⟨h.bel, fun e => h.g0 e, fun e => h.g2 e, fun _ => rfl, fun e => h.g7 e, fun e => h.p4 e, fun e => h.p6 e, fun e => h.p9 e, fun e => h.p10 e, fun e => absurd (show L 12 = true from e) hN, fun _ => h.led hN', fun e => h.ptr e, fun e _ => h.r10 e hN', fun e => absurd (show L 12 = true from e) hN⟩
theorem F21.m7 (h : F21 wS nmV itV more ns Y ys na jA L v89 v90 v91 v92 v93 v94 v95 v96 v97 v98 v99 s17 w) (hk : L 7 = false) : F21 wS nmV itV more ns Y ys na jA (upd L 7) v89 v90 v91 v92 v93 v94 v95 (.agg Y) v97 v98 v99 s17 w := by
  have hN : ¬ L 12 = true := fun x => by have e := h.p12 x; rw [e.2.2.2.2.2.2.2.1] at hk; cases hk
  have hN' : L 12 = false := by simpa using hN
  exact ⟨h.bel, fun e => h.g0 e, fun e => h.g2 e, fun e => h.g5 e, fun _ => rfl, fun e => h.p4 e, fun e => h.p6 e, fun e => h.p9 e, fun e => h.p10 e, fun e => absurd (show L 12 = true from e) hN, fun _ => h.led hN', fun e => h.ptr e, fun e _ => h.r10 e hN', fun e => absurd (show L 12 = true from e) hN⟩
theorem F21.m1 {v' : Value} {w' : World} (h : F21 wS nmV itV more ns Y ys na jA L v89 v90 v91 v92 v93 v94 v95 v96 v97 v98 v99 s17 w) (hk : L 1 = false) (hown : w'.ownsRow wS.heap.size 9 1 v' ns.length (ns.map strW)) (hg : w.grownBy w' none) (hat : v'.ownBlock = none ∨ v'.ownBlock = some w.heap.size) : F21 wS nmV itV more ns Y ys na jA (upd L 1) v89 v' v91 v92 v93 v94 v95 v96 v97 v98 v99 s17 w' := by
  have hN : ¬ L 12 = true := fun x => by have e := h.p12 x; rw [e.2.1] at hk; cases hk
  have hN' : L 12 = false := by simpa using hN
  have hbn : Below w.heap.size w w' := (Below.refl _ _).grown hg (Nat.le_refl _) (fun k hk => by cases hk)
  have h4' : L 4 = false := by
    cases h4 : L 4 with
    | false => rfl
    | true => have e := (h.p4 h4).1; rw [e] at hk; cases hk
  have h10 : ¬ L 10 = true := fun x => by have e := (h.p10 x).1; rw [e] at h4'; cases h4'
  have hled := (h.led hN').new hbn 0 ⟨true, v', 9, 1, ns.length, ns.map strW⟩ hown (fun g e => by
    rcases hat with x | x
    · have e : v'.ownBlock = some g := e
      rw [x] at e; cases e
    · have e : v'.ownBlock = some g := e
      rw [x] at e; cases e; exact Nat.le_refl _)
  have e1 : (os21 more ns Y.toList ys na L v90 v92 v93 v95 v97 v98 s17).set 0 ⟨true, v', 9, 1, ns.length, ns.map strW⟩ = os21 more ns Y.toList ys na (upd L 1) v' v92 v93 v95 v97 v98 s17 := by
    simp [os21, upd, h4']
  rw [e1] at hled
  exact ⟨h.bel.trans (hbn.mono h.bel.size), fun e => h.g0 e, fun e => h.g2 e, fun e => h.g5 e, fun e => h.g7 e, fun e => ⟨rfl, (h.p4 e).2⟩, fun e => h.p6 e, fun e => h.p9 e, fun e => h.p10 e, fun e => absurd (show L 12 = true from e) hN, fun _ => hled, fun e => h.ptr e, fun e _ => absurd e h10, fun e => absurd (show L 12 = true from e) hN⟩
theorem F21.m6 {v' : Value} {w' : World} (h : F21 wS nmV itV more ns Y ys na jA L v89 v90 v91 v92 v93 v94 v95 v96 v97 v98 v99 s17 w) (hk : L 6 = false) (h4 : L 4 = true) (hown : w'.ownsRow wS.heap.size 35 6 v' na (ys)) (hg : w.grownBy w' none) (hat : v'.ownBlock = none ∨ v'.ownBlock = some w.heap.size) : F21 wS nmV itV more ns Y ys na jA (upd L 6) v89 v90 v91 v92 v93 v94 v' v96 v97 v98 v99 s17 w' := by
  have hN : ¬ L 12 = true := fun x => by have e := h.p12 x; rw [e.2.2.2.2.2.2.1] at hk; cases hk
  have hN' : L 12 = false := by simpa using hN
  have hbn : Below w.heap.size w w' := (Below.refl _ _).grown hg (Nat.le_refl _) (fun k hk => by cases hk)
  have h9' : L 9 = false := by
    cases h9 : L 9 with
    | false => rfl
    | true => have e := (h.p9 h9).1; rw [e] at hk; cases hk
  have h10 : ¬ L 10 = true := fun x => by have e := (h.p10 x).2; rw [e] at h9'; cases h9'
  have hled := (h.led hN').new hbn 2 ⟨true, v', 35, 6, na, ys⟩ hown (fun g e => by
    rcases hat with x | x
    · have e : v'.ownBlock = some g := e
      rw [x] at e; cases e
    · have e : v'.ownBlock = some g := e
      rw [x] at e; cases e; exact Nat.le_refl _)
  have e1 : (os21 more ns Y.toList ys na L v90 v92 v93 v95 v97 v98 s17).set 2 ⟨true, v', 35, 6, na, ys⟩ = os21 more ns Y.toList ys na (upd L 6) v90 v92 v93 v' v97 v98 s17 := by
    simp [os21, upd, h9']
  rw [e1] at hled
  exact ⟨h.bel.trans (hbn.mono h.bel.size), fun e => h.g0 e, fun e => h.g2 e, fun e => h.g5 e, fun e => h.g7 e, fun e => h.p4 e, fun _ => h4, fun e => ⟨rfl, (h.p9 e).2⟩, fun e => h.p10 e, fun e => absurd (show L 12 = true from e) hN, fun _ => hled, fun e => h.ptr e, fun e _ => absurd e h10, fun e => absurd (show L 12 = true from e) hN⟩
theorem F21.m3 (h : F21 wS nmV itV more ns Y ys na jA L v89 v90 v91 v92 v93 v94 v95 v96 v97 v98 v99 s17 w) (hk : L 3 = false) : F21 wS nmV itV more ns Y ys na jA (upd L 3) v89 v90 v91 (.slice (some ⟨w.heap.size, 0, none⟩) 1 1) v93 v94 v95 v96 v97 v98 v99 s17 (w.alloc (.cells #[strW more] 9)) := by
  have hN : ¬ L 12 = true := fun x => by have e := h.p12 x; rw [e.2.2.2.1] at hk; cases hk
  have hN' : L 12 = false := by simpa using hN
  have h10 : ¬ L 10 = true := fun x => by have e := (h.p4 (h.p10 x).1).2; rw [e] at hk; cases hk
  have hled := (h.led hN').new (w' := w.alloc (.cells #[strW more] 9)) (belowOne _ _) 1 ⟨true, .slice (some ⟨w.heap.size, 0, none⟩) 1 1, 9, 1, 1, [strW more]⟩ (row_new w _ _ 1 1 #[strW more] h.bel.size rfl (by decide)) (fun g hg => by cases hg; exact Nat.le_refl _)
  have e1 : (os21 more ns Y.toList ys na L v90 v92 v93 v95 v97 v98 s17).set 1 ⟨true, .slice (some ⟨w.heap.size, 0, none⟩) 1 1, 9, 1, 1, [strW more]⟩ = os21 more ns Y.toList ys na (upd L 3) v90 (.slice (some ⟨w.heap.size, 0, none⟩) 1 1) v93 v95 v97 v98 s17 := by
    simp [os21, upd, rowOf]
  rw [e1] at hled
  exact ⟨h.bel.trans ((belowOne _ _).mono h.bel.size), fun e => h.g0 e, fun e => h.g2 e, fun e => h.g5 e, fun e => h.g7 e, fun e => ⟨(h.p4 e).1, rfl⟩, fun e => h.p6 e, fun e => h.p9 e, fun e => h.p10 e, fun e => absurd (show L 12 = true from e) hN, fun _ => hled, fun e => h.ptr e, fun e _ => absurd e h10, fun e => absurd (show L 12 = true from e) hN⟩
theorem F21.m8 (h : F21 wS nmV itV more ns Y ys na jA L v89 v90 v91 v92 v93 v94 v95 v96 v97 v98 v99 s17 w) (hk : L 8 = false) (hY : Y.size = 6) : F21 wS nmV itV more ns Y ys na jA (upd L 8) v89 v90 v91 v92 v93 v94 v95 v96 (.slice (some ⟨w.heap.size, 0, none⟩) 1 1) v98 v99 s17 (w.alloc (.cells Y 35)) := by
  have hN : ¬ L 12 = true := fun x => by have e := h.p12 x; rw [e.2.2.2.2.2.2.2.2.1] at hk; cases hk
  have hN' : L 12 = false := by simpa using hN
  have h10 : ¬ L 10 = true := fun x => by have e := (h.p9 (h.p10 x).2).2; rw [e] at hk; cases hk
  have hled := (h.led hN').new (w' := w.alloc (.cells Y 35)) (belowOne _ _) 3 ⟨true, .slice (some ⟨w.heap.size, 0, none⟩) 1 1, 35, 6, 1, Y.toList⟩ (row_new w _ _ 6 1 Y h.bel.size (by omega) (by decide)) (fun g hg => by cases hg; exact Nat.le_refl _)
  have e1 : (os21 more ns Y.toList ys na L v90 v92 v93 v95 v97 v98 s17).set 3 ⟨true, .slice (some ⟨w.heap.size, 0, none⟩) 1 1, 35, 6, 1, Y.toList⟩ = os21 more ns Y.toList ys na (upd L 8) v90 v92 v93 v95 (.slice (some ⟨w.heap.size, 0, none⟩) 1 1) v98 s17 := by
    simp [os21, upd, rowOf]
  rw [e1] at hled
  exact ⟨h.bel.trans ((belowOne _ _).mono h.bel.size), fun e => h.g0 e, fun e => h.g2 e, fun e => h.g5 e, fun e => h.g7 e, fun e => h.p4 e, fun e => h.p6 e, fun e => ⟨(h.p9 e).1, rfl⟩, fun e => h.p10 e, fun e => absurd (show L 12 = true from e) hN, fun _ => hled, fun e => h.ptr e, fun e _ => absurd e h10, fun e => absurd (show L 12 = true from e) hN⟩
theorem F21.m11 (h : F21 wS nmV itV more ns Y ys na jA L v89 v90 v91 v92 v93 v94 v95 v96 v97 v98 v99 s17 w) (hk : L 11 = false) : F21 wS nmV itV more ns Y ys na jA (upd L 11) v89 v90 v91 v92 v93 v94 v95 v96 v97 v98 v99 (.pointer (some ⟨w.heap.size, 0, none⟩)) (w.alloc (.cells zeroL.toArray 35)) := by
  have hN : ¬ L 12 = true := fun x => by have e := h.p12 x; rw [e.2.2.2.2.2.2.2.2.2.2.2] at hk; cases hk
  have hN' : L 12 = false := by simpa using hN
  have hled := (h.led hN').new (w' := w.alloc (.cells zeroL.toArray 35)) (belowOne _ _) 4 ⟨true, .slice (some ⟨w.heap.size, 0, none⟩) 1 1, 35, 6, 1, zeroL⟩ (row_new w _ _ 6 1 zeroL.toArray h.bel.size rfl (by decide)) (fun g hg => by cases hg; exact Nat.le_refl _)
  have e1 : (os21 more ns Y.toList ys na L v90 v92 v93 v95 v97 v98 s17).set 4 ⟨true, .slice (some ⟨w.heap.size, 0, none⟩) 1 1, 35, 6, 1, zeroL⟩ = os21 more ns Y.toList ys na (upd L 11) v90 v92 v93 v95 v97 v98 (.pointer (some ⟨w.heap.size, 0, none⟩)) := by
    simp [os21, upd, rowOf]
  rw [e1] at hled
  exact ⟨h.bel.trans ((belowOne _ _).mono h.bel.size), fun e => h.g0 e, fun e => h.g2 e, fun e => h.g5 e, fun e => h.g7 e, fun e => h.p4 e, fun e => h.p6 e, fun e => h.p9 e, fun e => h.p10 e, fun e => absurd (show L 12 = true from e) hN, fun _ => hled, fun _ => ⟨_, rfl⟩, fun e _ => by
    obtain ⟨k, m, e', t, an, nn, cn, ai, ni, ci, h1, h2⟩ := h.r10 e hN'
    exact ⟨k, m, e', t, an, nn, cn, ai, ni, ci, h1, h2.keep (fun b _ hb _ hx => by cases hx; exact absurd hb (Nat.lt_irrefl _)) (fun b _ hb => (belowOne w _).block b hb) (belowOne w _).size⟩, fun e => absurd (show L 12 = true from e) hN⟩
theorem F21.m4 {v' : Value} {w' : World} (h : F21 wS nmV itV more ns Y ys na jA L v89 v90 v91 v92 v93 v94 v95 v96 v97 v98 v99 s17 w) (hk : L 4 = false) (h1 : L 1 = true) (h3 : L 3 = true) (hown : w'.ownsRow wS.heap.size 9 1 v' (ns.length + 1) (ns.map strW ++ [strW more])) (hg : w.grownBy w' v90.ownBlock) (hat : v'.ownBlock = v90.ownBlock ∨ v'.ownBlock = some w.heap.size) : F21 wS nmV itV more ns Y ys na jA (upd L 4) v89 v90 v91 v92 v' v94 v95 v96 v97 v98 v99 s17 w' := by
  have hN : ¬ L 12 = true := fun x => by have e := h.p12 x; rw [e.2.2.2.2.1] at hk; cases hk
  have hN' : L 12 = false := by simpa using hN
  have h10 : ¬ L 10 = true := fun x => by have e := (h.p10 x).1; rw [e] at hk; cases hk
  have hr0 := (h.led hN').row 0 ⟨true, v90, 9, 1, ns.length, ns.map strW⟩ (by simp [os21, h1, hk]) rfl
  have hled := (h.led hN').grow 0 ⟨true, v90, 9, 1, ns.length, ns.map strW⟩ ⟨true, v', 9, 1, ns.length + 1, ns.map strW ++ [strW more]⟩ (by simp [os21, h1, hk]) rfl hown hg hat
  have e1 : (os21 more ns Y.toList ys na L v90 v92 v93 v95 v97 v98 s17).set 0 ⟨true, v', 9, 1, ns.length + 1, ns.map strW ++ [strW more]⟩ = os21 more ns Y.toList ys na (upd L 4) v90 v92 v' v95 v97 v98 s17 := by
    simp [os21, upd, h1, hk]
  rw [e1] at hled
  exact ⟨h.bel.grown hg h.bel.size (fun g e => row_ge hr0 e), fun e => h.g0 e, fun e => h.g2 e, fun e => h.g5 e, fun e => h.g7 e, fun _ => ⟨h1, h3⟩, fun e => rfl, fun e => h.p9 e, fun e => absurd e h10, fun e => absurd (show L 12 = true from e) hN, fun _ => hled, fun e => h.ptr e, fun e _ => absurd e h10, fun e => absurd (show L 12 = true from e) hN⟩
theorem F21.m9 {v' : Value} {w' : World} (h : F21 wS nmV itV more ns Y ys na jA L v89 v90 v91 v92 v93 v94 v95 v96 v97 v98 v99 s17 w) (hk : L 9 = false) (h6 : L 6 = true) (h8 : L 8 = true) (hown : w'.ownsRow wS.heap.size 35 6 v' (na + 1) (ys ++ Y.toList)) (hg : w.grownBy w' v95.ownBlock) (hat : v'.ownBlock = v95.ownBlock ∨ v'.ownBlock = some w.heap.size) : F21 wS nmV itV more ns Y ys na jA (upd L 9) v89 v90 v91 v92 v93 v94 v95 v96 v97 v' v99 s17 w' := by
  have hN : ¬ L 12 = true := fun x => by have e := h.p12 x; rw [e.2.2.2.2.2.2.2.2.2.1] at hk; cases hk
  have hN' : L 12 = false := by simpa using hN
  have h10 : ¬ L 10 = true := fun x => by have e := (h.p10 x).2; rw [e] at hk; cases hk
  have hr0 := (h.led hN').row 2 ⟨true, v95, 35, 6, na, ys⟩ (by simp [os21, h6, hk]) rfl
  have hled := (h.led hN').grow 2 ⟨true, v95, 35, 6, na, ys⟩ ⟨true, v', 35, 6, na + 1, ys ++ Y.toList⟩ (by simp [os21, h6, hk]) rfl hown hg hat
  have e1 : (os21 more ns Y.toList ys na L v90 v92 v93 v95 v97 v98 s17).set 2 ⟨true, v', 35, 6, na + 1, ys ++ Y.toList⟩ = os21 more ns Y.toList ys na (upd L 9) v90 v92 v93 v95 v97 v' s17 := by
    simp [os21, upd, h6, hk]
  rw [e1] at hled
  exact ⟨h.bel.grown hg h.bel.size (fun g e => row_ge hr0 e), fun e => h.g0 e, fun e => h.g2 e, fun e => h.g5 e, fun e => h.g7 e, fun e => h.p4 e, fun e => h.p6 e, fun _ => ⟨h6, h8⟩, fun e => absurd e h10, fun e => absurd (show L 12 = true from e) hN, fun _ => hled, fun e => h.ptr e, fun e _ => absurd e h10, fun e => absurd (show L 12 = true from e) hN⟩
theorem F21.m10 {w' : World} {k m e' : Int} {t : ByteArray} {an : Option Addr} {nn cn : Nat} {ai : Option Addr} {ni ci : Nat} (h : F21 wS nmV itV more ns Y ys na jA L v89 v90 v91 v92 v93 v94 v95 v96 v97 v98 v99 s17 w) (hk : L 10 = false) (h4 : L 4 = true) (h9 : L 9 = true) (hb : Below w.heap.size w w') (hJ : JAt (fun b => w.heap.size ≤ b) w' 16 (.agg #[.int .i64 k, .int .i64 m, .int .i64 e', .string t, .slice an nn cn, .slice ai ni ci]) jA) : F21 wS nmV itV more ns Y ys na jA (upd L 10) v89 v90 v91 v92 v93 v94 v95 v96 v97 v98 (.agg #[.int .i64 k, .int .i64 m, .int .i64 e', .string t, .slice an nn cn, .slice ai ni ci]) s17 w' := by
  have hN : ¬ L 12 = true := fun x => by have e := h.p12 x; rw [e.2.2.2.2.2.2.2.2.2.2.1] at hk; cases hk
  have hN' : L 12 = false := by simpa using hN
  have hS : ∀ b, w.heap.size ≤ b → (L 11 = true → s17 ≠ .pointer (some ⟨b, 0, none⟩)) := fun b hb h9 hx => by
    have hr := (h.led hN').row 4 ⟨L 11, rowOf s17, 35, 6, 1, zeroL⟩ rfl h9
    have := own_lt hr (g := b) (by rw [hx]; rfl)
    omega
  exact ⟨h.bel.trans (hb.mono h.bel.size), fun e => h.g0 e, fun e => h.g2 e, fun e => h.g5 e, fun e => h.g7 e, fun e => h.p4 e, fun e => h.p6 e, fun e => h.p9 e, fun _ => ⟨h4, h9⟩, fun e => absurd (show L 12 = true from e) hN, fun _ => (h.led hN').below hb, fun e => h.ptr e, fun _ _ => ⟨k, m, e', t, an, nn, cn, ai, ni, ci, rfl, hJ.keep (fun b h1 _ => hS b h1) (fun _ _ _ => rfl) (Nat.le_refl _)⟩, fun e => absurd (show L 12 = true from e) hN⟩
theorem F21.box (h : F21 wS nmV itV more ns Y ys na jA L v89 v90 v91 v92 v93 v94 v95 v96 v97 v98 v99 s17 w) (hk : L 12 = false) (h9 : L 11 = true) : ∃ g, s17 = .pointer (some ⟨g, 0, none⟩) ∧ wS.heap.size ≤ g ∧ w.heap[g]? = some (.cells #[.int .i64 0, .int .i64 0, .int .i64 0, .string ⟨#[]⟩, .slice none 0 0, .slice none 0 0] 35 (0, 0)) := by
  obtain ⟨g, hg⟩ := h.ptr h9
  refine ⟨g, hg, ?_⟩
  have hr := (h.led hk).row 4 ⟨L 11, rowOf s17, 35, 6, 1, zeroL⟩ rfl h9
  rw [hg] at hr
  rcases hr.2 with ⟨e, _⟩ | ⟨g', cap, cur, hv, hb, hh, _, _, hcs, htk⟩
  · cases e
  · cases hv
    refine ⟨hb, ?_⟩
    rw [hh]
    have : cur = #[.int .i64 0, .int .i64 0, .int .i64 0, .string ⟨#[]⟩, .slice none 0 0, .slice none 0 0] := by
      apply Array.ext'
      have h6 : cur.size = 6 := hcs
      have h7 : cur.toList.take 6 = zeroL := htk
      rw [List.take_of_length_le (by rw [Array.length_toList]; omega)] at h7
      exact h7
    rw [this]
theorem F21.m12 {g : Nat} {k m e' : Int} {t : ByteArray} {an : Option Addr} {nn cn : Nat} {ai : Option Addr} {ni ci : Nat} (h : F21 wS nmV itV more ns Y ys na jA L v89 v90 v91 v92 v93 v94 v95 v96 v97 v98 v99 s17 w) (hk : L 12 = false) (hall : L 0 = true ∧ L 1 = true ∧ L 2 = true ∧ L 3 = true ∧ L 4 = true ∧ L 5 = true ∧ L 6 = true ∧ L 7 = true ∧ L 8 = true ∧ L 9 = true ∧ L 10 = true ∧ L 11 = true) (hg : s17 = .pointer (some ⟨g, 0, none⟩)) (hge : wS.heap.size ≤ g) (hh : w.heap[g]? = some (.cells #[.int .i64 0, .int .i64 0, .int .i64 0, .string ⟨#[]⟩, .slice none 0 0, .slice none 0 0] 35 (0, 0)))
    (hu : v99 = .agg #[.int .i64 k, .int .i64 m, .int .i64 e', .string t, .slice an nn cn, .slice ai ni ci]) (hJ : JAt (fun b => L 11 = true → s17 ≠ .pointer (some ⟨b, 0, none⟩)) w 16 v99 jA) : F21 wS nmV itV more ns Y ys na jA (upd L 12) v89 v90 v91 v92 v93 v94 v95 v96 v97 v98 v99 s17 (put6 w g 0 (.int .i64 k) (.int .i64 m) (.int .i64 e') (.string t) (.slice an nn cn) (.slice ai ni ci)) := by
  have hb := below_put6' h.bel hge (.int .i64 k) (.int .i64 m) (.int .i64 e') (.string t) (.slice an nn cn) (.slice ai ni ci)
  exact ⟨hb, fun e => h.g0 e, fun e => h.g2 e, fun e => h.g5 e, fun e => h.g7 e, fun e => h.p4 e, fun e => h.p6 e, fun e => h.p9 e, fun e => h.p10 e, fun _ => hall, fun e => absurd (show true = false from e) (by decide), fun e => h.ptr e, fun _ e => absurd (show true = false from e) (by decide), fun _ => ⟨g, k, m, e', t, an, nn, cn, ai, ni, ci, hg, hb, put6_self hh _ _ _ _ _ _, by
    rw [← hu]
    exact hJ.keep (S' := Any) (fun _ _ _ => trivial) (fun b h1 _ => put6_block _ _ 0 _ _ _ _ _ _ b (fun e => h1 hall.2.2.2.2.2.2.2.2.2.2.2 (by rw [hg, e]))) (by rw [put6_size]; exact Nat.le_refl _)⟩⟩
end
end Go.Proofs.Ytafmnoeljefpaaa.Js
