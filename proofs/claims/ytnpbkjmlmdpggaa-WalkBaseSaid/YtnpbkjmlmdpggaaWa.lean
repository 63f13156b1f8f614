import Derived.Test.YtnpbkjmlmdpggaaChecked
import Derived.RangeFuncNested
import Derived.RangeFuncBound
import Derived.RangeFuncCalls
import Derived.RangeFuncLeaves
import Derived.Shelf.Abstract
import Derived.Shelf.RegionOpen
import Derived.WalkKit
import Derived.OwnWalkIn
import Derived.TacticsInMore
import Derived.LoopNIn
import Derived.LoopIn
/- A range over a function that reads memory between two rounds: the round names the blocks that it keeps; it may make rows and let them grow. -/
set_option linter.unusedVariables false
set_option linter.unusedSimpArgs false
namespace Go.Proofs.Ytnpbkjmlmdpggaa.Wk
open Go.RowKit Go.Shelf

/-- Of what there was, all but two blocks lies as it lay. -/
structure Gw (B : Nat) (X Y : World) : Prop where
  os : Y.os = X.os
  tape : Y.tape = X.tape
  output : Y.output = X.output
  size : X.heap.size ≤ Y.heap.size
  block : ∀ k, k < X.heap.size → k ≠ B → k ≠ B + 1 → Y.heap[k]? = X.heap[k]?
theorem Gw.of_below {B : Nat} {X Y : World} (h : Below X.heap.size X Y) : Gw B X Y := ⟨h.os, h.tape, h.output, h.size, fun k hk _ _ => h.block k hk⟩
theorem Gw.put {B : Nat} (W : World) {l : Nat} (o : Obj) (h : l = B ∨ l = B + 1) : Gw B W (W.putObj l o) := ⟨rfl, rfl, rfl, by simp, fun k _ h1 h2 => World.putObj_heap_other (by omega)⟩
theorem Gw.refl (B : Nat) (W : World) : Gw B W W := ⟨rfl, rfl, rfl, Nat.le_refl _, fun _ _ _ _ => rfl⟩
theorem Gw.belowB {B n : Nat} {X Y : World} (h : Gw B X Y) (hn : n ≤ B) (hs : n ≤ X.heap.size) : Below n X Y := ⟨h.os, h.tape, h.output, h.size, fun k hk => h.block k (by omega) (by omega) (by omega)⟩
/-- What is kept: the blocks of V. -/
structure Kv (V : Nat → Prop) (W W' : World) : Prop where
  size : W.heap.size ≤ W'.heap.size
  block : ∀ k, V k → W'.heap[k]? = W.heap[k]?
theorem Kv.refl (V : Nat → Prop) (W : World) : Kv V W W := ⟨Nat.le_refl _, fun _ _ => rfl⟩
theorem Kv.trans {V : Nat → Prop} {A B C : World} (h : Kv V A B) (k : Kv V B C) : Kv V A C := ⟨Nat.le_trans h.size k.size, fun i hi => (k.block i hi).trans (h.block i hi)⟩
theorem Kv.mono {V U : Nat → Prop} {A B : World} (h : Kv V A B) (hs : ∀ k, U k → V k) : Kv U A B := ⟨h.size, fun k hk => h.block k (hs k hk)⟩
theorem Kv.of_below {V : Nat → Prop} {n : Nat} {A B : World} (h : Below n A B) (hV : ∀ k, V k → k < n) : Kv V A B := ⟨h.size, fun k hk => h.block k (hV k hk)⟩
/-- The blocks of V, and the two of the loop that begins at B. -/
def VB (V : Nat → Prop) (B : Nat) : Nat → Prop := fun k => V k ∨ k = B ∨ k = B + 1
theorem VB.lt {V : Nat → Prop} {B n : Nat} (hV : ∀ k, V k → k < B) (hn : B + 2 ≤ n) : ∀ k, VB V B k → k < n := fun k hk => by rcases hk with h | h | h; (have := hV k h; omega); all_goals omega

/-- An iterator that reads blocks of V, and makes new ones. -/
def SeqV {α : Type} (F : Fence) (n : Nat) (P : Program) (g : Nat) (lb : Array Value) (encs : α → Array Value) (V : Nat → Prop) (S Sp : List α → Prop) (w : World) : Prop :=
  ∀ (l : Nat) (J Jx : List α → World → Prop) (W : World), Below w.heap.size w W →
    (∀ s X Y, Below X.heap.size X Y → J s X → J s Y) → (∀ s X Y, Below X.heap.size X Y → Jx s X → Jx s Y) →
    (∀ pre x W1, J pre W1 → Sp (pre ++ [x]) → YieldAt F (n - 1) P l (encs x) W1 fun e W' =>
      (e = .returned (.bool true) ∧ J (pre ++ [x]) W' ∧ Kv V W1 W') ∨ (e = .returned (.bool false) ∧ Jx (pre ++ [x]) W')) →
    J [] W →
    CallsIn F n P g (#[.func (.yield l) #[] #[]] ++ lb) W fun e W' => (∃ v, e = .returned v) ∧ ((∃ xs, S xs ∧ J xs W') ∨ (∃ pre, Sp pre ∧ Jx pre W'))

/-- How the body of a round may be left. -/
def postV {α : Type} (V : Nat → Prop) (B : Nat) (I : List α → World → Prop) (Ix : Code → List α → World → Prop) (xs : List α) (W : World) : Exit → Act → World → Prop
  | .normal, _, W' => Kv (VB V B) W W' ∧ I xs W'
  | .ret, _, W' => Kv (VB V B) W W' ∧ Ix .ret xs W'
  | .exit id, _, W' => Kv (VB V B) W W' ∧ Ix (.exit id) xs W'
  | .goto t, _, W' => Kv (VB V B) W W' ∧ Ix (.goto t) xs W'
  | .panic _, _, _ => False
  | .outgrown, _, _ => False

variable {F : Fence} {n : Nat} {P : Program}

theorem wpIn_rangeFunc_ownV {α : Type} {g : Operand} {ps : Array Tmp} {assign body : Code} {Q : Exit → Act → World → Prop} {a : Act} {w : World}
    (hro : F.round = none) (h1 : 1 ≤ n) {gf : Nat} {lb : Array Value} (hg : a.eval g = .func (.func gf) #[] lb) (hFg : F.fn gf) (eg : ∀ args w, (callFunc gf args).run P w = .ok (.enter gf args) w)
    {encs : α → Array Value} {V : Nat → Prop} {S Sp : List α → Prop} (hseq : SeqV F (n - 1) P gf lb encs V S Sp w) (hps : ∀ x, (encs x).size = ps.size)
    (hV : ∀ k, V k → k < w.heap.size)
    (I : List α → World → Prop) (Ix : Code → List α → World → Prop) (hI : ∀ s X Y, Gw w.heap.size X Y → I s X → I s Y) (hIx : ∀ c s X Y, Gw w.heap.size X Y → Ix c s X → Ix c s Y) (h0 : I [] w)
    (Ax : α → Act → World → Prop) (hAx : ∀ x a X Y, Gw w.heap.size X Y → Ax x a X → Ax x a Y)
    (hassign : ∀ (l : Nat) (x : α) (W : World) (K : Act → World → Prop), w.heap.size + 2 ≤ W.heap.size → (∀ a' W', Below W.heap.size W W' → Ax x a' W' → K a' W') →
      assign.wpIn (F.inRound l) (n - 1 - 1) P (Exit.then K (fun _ _ _ => False)) { tmps := (ps.zip (encs x)).foldl (fun t (p, v) => t.setIfInBounds p v) a.tmps, defers := [] } W)
    (hbody : ∀ (l : Nat) (pre : List α) (x : α) (a' : Act) (W : World), w.heap.size + 2 ≤ W.heap.size → I pre W → Ax x a' W → Sp (pre ++ [x]) → body.wpIn (F.inRound l) (n - 1 - 1) P (postV V w.heap.size I Ix (pre ++ [x]) W) a' W)
    (hdone : ∀ (D : Nat) (xs : List α) (W : World), D = w.heap.size → S xs → I xs W → W.heap[D]? = some (.deferred (some [])) → Q .normal { a with defers := { target := .collected D, args := #[] } :: a.defers } W)
    (hstop : ∀ (D : Nat) (c : Code) (pre : List α) (W : World), D = w.heap.size → Sp pre → Ix c pre W → W.heap[D]? = some (.deferred (some [])) → c.wpIn F n P Q { a with defers := { target := .collected D, args := #[] } :: a.defers } W) :
    (Code.rangeFunc g ps assign body).wpIn F n P Q a w := by
  refine wpIn_rangeFunc ?_
  intro fn hfn
  rw [hro]
  obtain ⟨rec, hrec⟩ : ∃ rec : LoopState → Option Code → Loop, rec = fun st pe => { state := st, pending := pe, fn, tmps := a.tmps, params := ps, assign, body, defers := w.heap.size } := ⟨_, rfl⟩
  obtain ⟨W1, hW1⟩ : ∃ W1, (w.alloc (.deferred (some []))).alloc (.loop (rec .ready none)) = W1 := ⟨_, rfl⟩
  have hL1 : W1.heap[w.heap.size + 1]? = some (.loop (rec .ready none)) := by
    rw [← hW1]; have := World.alloc_heap_new (w.alloc (.deferred (some []))) (.loop (rec .ready none)); rwa [World.size_alloc] at this
  have hK1 : W1.heap[w.heap.size]? = some (.deferred (some [])) := by
    rw [← hW1]; exact (Below.heap_alloc _ _ _ (by simp)).trans (World.alloc_heap_new w _)
  have hb1 : Below w.heap.size w W1 := by
    rw [← hW1]; exact ((Below.refl _ w).alloc (Nat.le_refl _) _).alloc (by simp) _
  have hs1 : W1.heap.size = w.heap.size + 2 := by rw [← hW1]; simp
  have hI1 : I [] W1 := hI _ _ _ (Gw.of_below hb1) h0
  refine ⟨w.heap.size + 1, [{ target := .collected w.heap.size, args := #[] }], W1, { target := .fn (.func gf) lb, args := #[.func (.yield (w.heap.size + 1)) #[] #[]] }, W1, gf,
    #[.func (.yield (w.heap.size + 1)) #[] #[]] ++ lb, W1, ?_, ?_, ?_, ?_, fun _ => h1, ?_⟩
  · rw [← hW1, hrec]; exact run_enterLoop_outer _ _ _ _ _
  · simp only [resolve, hg]
    simp [go_sem]
  · intro f' hf'; simp [Target.leads] at hf'; subst hf'; exact hFg
  · simp [invoke, go_sem, eg]
  · refine (hseq (w.heap.size + 1)
      (fun pre W => I pre W ∧ W.heap[w.heap.size + 1]? = some (.loop (rec .ready none)) ∧ W.heap[w.heap.size]? = some (.deferred (some [])))
      (fun pre W => ∃ c, Ix c pre W ∧ W.heap[w.heap.size + 1]? = some (.loop (rec .done (some c))) ∧ W.heap[w.heap.size]? = some (.deferred (some [])))
      W1 hb1
      (fun s A B hb hs => ⟨hI s A B (Gw.of_below hb) hs.1, (hb.block _ (Array.getElem?_eq_some_iff.1 hs.2.1).1).trans hs.2.1, (hb.block _ (Array.getElem?_eq_some_iff.1 hs.2.2).1).trans hs.2.2⟩)
      (fun s A B hb hs => by
        obtain ⟨c, hc, hl, hk⟩ := hs
        exact ⟨c, hIx c s A B (Gw.of_below hb) hc, (hb.block _ (Array.getElem?_eq_some_iff.1 hl).1).trans hl, (hb.block _ (Array.getElem?_eq_some_iff.1 hk).1).trans hk⟩)
      ?_ ⟨hI1, hL1, hK1⟩).mono ?_
    · rintro pre x W ⟨hi, hl, hk⟩ hlen
      have hlt : w.heap.size + 1 < W.heap.size := (Array.getElem?_eq_some_iff.1 hl).1
      have hy := run_yield (P := P) (args := encs x) hl (by rw [hrec]; exact hps x)
      rw [hrec] at hy
      refine ⟨fn, _, assign, body, hy, roundIn_of_wpIn hfn (hassign _ x W _ (by omega) ?_)⟩
      clear hy
      intro a' Wa hba hax
      replace hl := (hba.block _ hlt).trans hl
      replace hk := (hba.block _ (by omega)).trans hk
      have hKa : Kv V W Wa := Kv.of_below hba fun k hk => by have := hV k hk; omega
      replace hi := hI _ _ _ (Gw.of_below hba) hi
      replace hlt : w.heap.size + 1 < Wa.heap.size := (Array.getElem?_eq_some_iff.1 hl).1
      clear hba
      revert hKa
      generalize W = Wb
      intro hKa
      obtain ⟨W, rfl⟩ : ∃ W, W = Wa := ⟨_, rfl⟩
      refine ⟨_, run_beginRound hl (by rw [hrec]), ?_⟩
      have hl2 : (W.putObj (w.heap.size + 1) (.loop { rec .ready none with state := .busy })).heap[w.heap.size + 1]? = some (.loop { rec .ready none with state := .busy }) := World.putObj_heap_same hlt
      have hk2 : (W.putObj (w.heap.size + 1) (.loop { rec .ready none with state := .busy })).heap[w.heap.size]? = some (.deferred (some [])) := (World.putObj_heap_other (by omega)).trans hk
      have hs2 : ∀ o, (W.putObj (w.heap.size + 1) o).heap.size = W.heap.size := fun o => by simp
      have hput : ∀ (X : World) (o : Obj), Kv V X (X.putObj (w.heap.size + 1) o) := fun X o => ⟨by simp, fun k hk => World.putObj_heap_other (by have := hV k hk; omega)⟩
      refine wpIn_mono (hbody _ pre x a' _ (by rw [hs2]; omega) (hI _ _ _ (Gw.put W _ (.inr rfl)) hi) (hAx _ _ _ _ (Gw.put W _ (.inr rfl)) hax) hlen) ?_
      have fin : ∀ (jump : Option Code) (W3 : World), Kv (VB V w.heap.size) (W.putObj (w.heap.size + 1) (.loop { rec .ready none with state := .busy })) W3 →
          (Instr.endRound (w.heap.size + 1) jump).run P W3 = .ok (.bool jump.isNone) (W3.putObj (w.heap.size + 1) (.loop (rec (if jump.isNone then .ready else .done) jump))) ∧
          W3.heap[w.heap.size + 1]? = some (.loop { rec .ready none with state := .busy }) ∧
          (W3.putObj (w.heap.size + 1) (.loop (rec (if jump.isNone then .ready else .done) jump))).heap[w.heap.size + 1]? = some (.loop (rec (if jump.isNone then .ready else .done) jump)) ∧
          (W3.putObj (w.heap.size + 1) (.loop (rec (if jump.isNone then .ready else .done) jump))).heap[w.heap.size]? = some (.deferred (some [])) := fun jump W3 hk3 => by
        have hl3 := (hk3.block _ (.inr (.inr rfl))).trans hl2
        have hd3 := (hk3.block _ (.inr (.inl rfl))).trans hk2
        have := run_endRound (P := P) jump hl3
        rw [hrec] at this ⊢
        exact ⟨this, by rw [hrec] at hl3; exact hl3, World.putObj_heap_same (Array.getElem?_eq_some_iff.1 hl3).1, (World.putObj_heap_other (by omega)).trans hd3⟩
      rintro e a3 W3 hp
      cases e with
      | normal =>
        obtain ⟨hk3, hi3⟩ := hp
        obtain ⟨hr, hl3, hl4, hk4⟩ := fin none W3 hk3
        exact ⟨_, _, hr, .inl ⟨rfl, ⟨hI _ _ _ (Gw.put W3 _ (.inr rfl)) hi3, hl4, hk4⟩, hKa.trans (((hput W _).trans (hk3.mono fun k hk => .inl hk)).trans (hput W3 _))⟩⟩
      | ret =>
        obtain ⟨hk3, hi3⟩ := hp
        obtain ⟨hr, hl3, hl4, hk4⟩ := fin (some .ret) W3 hk3
        exact ⟨_, _, hr, .inr ⟨rfl, .ret, hIx _ _ _ _ (Gw.put W3 _ (.inr rfl)) hi3, hl4, hk4⟩⟩
      | exit id =>
        obtain ⟨hk3, hi3⟩ := hp
        obtain ⟨hr, hl3, hl4, hk4⟩ := fin (some (.exit id)) W3 hk3
        exact ⟨_, _, hr, .inr ⟨rfl, .exit id, hIx _ _ _ _ (Gw.put W3 _ (.inr rfl)) hi3, hl4, hk4⟩⟩
      | goto t =>
        obtain ⟨hk3, hi3⟩ := hp
        obtain ⟨hr, hl3, hl4, hk4⟩ := fin (some (.goto t)) W3 hk3
        exact ⟨_, _, hr, .inr ⟨rfl, .goto t, hIx _ _ _ _ (Gw.put W3 _ (.inr rfl)) hi3, hl4, hk4⟩⟩
      | panic ch => exact hp.elim
      | outgrown => exact hp.elim
    · rintro e W2 ⟨⟨v, rfl⟩, (⟨xs, hS, hi, hl, hk⟩ | ⟨pre, hSp, c, hi, hl, hk⟩)⟩
      · exact ⟨none, _, by have := run_endLoop (P := P) hl (by rw [hrec]; simp); rw [hrec] at this; exact this, hdone _ xs _ rfl hS (hI _ _ _ (Gw.put W2 _ (.inr rfl)) hi) ((World.putObj_heap_other (by omega)).trans hk)⟩
      · exact ⟨some c, _, by have := run_endLoop (P := P) hl (by rw [hrec]; simp); rw [hrec] at this; exact this, hstop _ c pre _ rfl hSp (hIx c _ _ _ (Gw.put W2 _ (.inr rfl)) hi) ((World.putObj_heap_other (by omega)).trans hk)⟩
/-- The same, where what the round begins with is known ahead of the world. -/
theorem wpIn_rangeFunc_ownV1 {α : Type} {g : Operand} {ps : Array Tmp} {assign body : Code} {Q : Exit → Act → World → Prop} {a : Act} {w : World}
    (hro : F.round = none) (h1 : 1 ≤ n) {gf : Nat} {lb : Array Value} (hg : a.eval g = .func (.func gf) #[] lb) (hFg : F.fn gf) (eg : ∀ args w, (callFunc gf args).run P w = .ok (.enter gf args) w)
    {encs : α → Array Value} {V : Nat → Prop} {S Sp : List α → Prop} (hseq : SeqV F (n - 1) P gf lb encs V S Sp w) (hps : ∀ x, (encs x).size = ps.size)
    (hV : ∀ k, V k → k < w.heap.size)
    (I : List α → World → Prop) (Ix : Code → List α → World → Prop) (hI : ∀ s X Y, Gw w.heap.size X Y → I s X → I s Y) (hIx : ∀ c s X Y, Gw w.heap.size X Y → Ix c s X → Ix c s Y) (h0 : I [] w)
    (hbody : ∃ a₁ : α → Act, (∀ (l : Nat) (x : α) (W : World) (K : Act → World → Prop), K (a₁ x) W →
      assign.wpIn (F.inRound l) (n - 1 - 1) P (Exit.then K (fun _ _ _ => False)) { tmps := (ps.zip (encs x)).foldl (fun t (p, v) => t.setIfInBounds p v) a.tmps, defers := [] } W) ∧
      ∀ (l : Nat) (pre : List α) (x : α) (W : World), w.heap.size + 2 ≤ W.heap.size → I pre W → Sp (pre ++ [x]) → body.wpIn (F.inRound l) (n - 1 - 1) P (postV V w.heap.size I Ix (pre ++ [x]) W) (a₁ x) W)
    (hdone : ∀ (D : Nat) (xs : List α) (W : World), D = w.heap.size → S xs → I xs W → W.heap[D]? = some (.deferred (some [])) → Q .normal { a with defers := { target := .collected D, args := #[] } :: a.defers } W)
    (hstop : ∀ (D : Nat) (c : Code) (pre : List α) (W : World), D = w.heap.size → Sp pre → Ix c pre W → W.heap[D]? = some (.deferred (some [])) → c.wpIn F n P Q { a with defers := { target := .collected D, args := #[] } :: a.defers } W) :
    (Code.rangeFunc g ps assign body).wpIn F n P Q a w := by
  obtain ⟨a₁, hassign, hbody⟩ := hbody
  exact wpIn_rangeFunc_ownV hro h1 hg hFg eg hseq hps hV I Ix hI hIx h0 (fun x a' _ => a' = a₁ x) (fun _ _ _ _ _ h => h)
    (fun l x W K hs hK => hassign l x W K (hK _ _ (Below.refl _ _) rfl)) (fun l pre x a' W hs hi e hp => by subst e; exact hbody l pre x W hs hi hp) hdone hstop

/-! Cells that hold a value, and may be written. -/
theorem cell_lt {W : World} {b o : Nat} {v : Value} (h : W.cell? ⟨b, o, none⟩ = some v) : b < W.heap.size := by
  obtain ⟨ob, ho, _⟩ := cells_of_cell h
  exact (Array.getElem?_eq_some_iff.1 ho).1
def HoldsA (W : World) (b o : Nat) (v : Value) : Prop := W.cell? ⟨b, o, none⟩ = some v ∧ W.frozen? ⟨b, o, none⟩ = false
theorem HoldsA.drewN {W : World} {b o : Nat} {v : Value} (h : HoldsA W b o v) (n : Nat) : HoldsA (W.drewN n) b o v := h
theorem HoldsA.set {W : World} {b o : Nat} {v : Value} (h : HoldsA W b o v) (v' : Value) : HoldsA (W.setCell ⟨b, o, none⟩ v') b o v' :=
  ⟨World.cell?_setCell_same' _ _ _ (by rw [h.1]; rfl), by rw [World.frozen?_setCell]; exact h.2⟩
theorem HoldsA.other {W : World} {b c o p : Nat} {v : Value} (h : HoldsA W b o v) (hn : b ≠ c ∨ o ≠ p) (v' : Value) : HoldsA (W.setCell ⟨c, p, none⟩ v') b o v :=
  ⟨by rw [World.cell?_setCell_other _ _ _ _ (by simp; omega)]; exact h.1, by rw [World.frozen?_setCell]; exact h.2⟩
theorem HoldsA.new (W : World) (vs : Array Value) (t : TypeId) (o : Nat) (v : Value) (h : vs[o]? = some v) : HoldsA (W.alloc (.cells vs t)) W.heap.size o v := ⟨by simp [h], by simp⟩
theorem HoldsA.below {n b o : Nat} {W W' : World} {v : Value} (h : HoldsA W b o v) (hb : Below n W W') (hlt : b < n) : HoldsA W' b o v :=
  ⟨(hb.cell (p := ⟨b, o, none⟩) hlt).trans h.1, (hb.frozen (p := ⟨b, o, none⟩) hlt).trans h.2⟩
theorem HoldsA.lt {W : World} {b o : Nat} {v : Value} (h : HoldsA W b o v) : b < W.heap.size := cell_lt h.1
theorem HoldsA.grow {b o : Nat} {W W' : World} {v : Value} (h : HoldsA W b o v) (hb : Below W.heap.size W W') : HoldsA W' b o v := h.below hb h.lt
theorem HoldsA.gw {B b o : Nat} {X Y : World} {v : Value} (h : HoldsA X b o v) (g : Gw B X Y) (hb : b < B) : HoldsA Y b o v := h.below (g.belowB (n := b + 1) hb h.lt) (Nat.lt_succ_self b)
theorem below_gw {n B : Nat} {w X Y : World} (h : Below n w X) (g : Gw B X Y) (hn : n ≤ B) (hs : n ≤ w.heap.size) : Below n w Y := h.trans (g.belowB hn (Nat.le_trans hs h.size))
end Go.Proofs.Ytnpbkjmlmdpggaa.Wk
