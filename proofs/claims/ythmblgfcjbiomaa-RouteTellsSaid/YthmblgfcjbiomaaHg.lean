import Derived.Test.YthmblgfcjbiomaaHf
import Derived.Deep.AppendLies
import Derived.Deep.RegionLaw
import Derived.OwnWalk
/- put. -/
set_option linter.unusedVariables false
set_option linter.unusedSimpArgs false
namespace Go.Proofs.Ythmblgfcjbiomaa.Hp
open Go.RowKit

theorem ent_info : (Try.prog.info? 75).map (fun i => (i.zero, i.size, i.bytes)) = some (some (.agg #[.int .i64 0, .int .i64 0]), 2, 16) := by kernel_rfl
/-- Of what there was, one block and one row alone have turned. -/
structure Only (b : Nat) (r r' : Option Nat) (w w' : World) : Prop where
  os : w'.os = w.os
  tape : w'.tape = w.tape
  output : w'.output = w.output
  size : w.heap.size ≤ w'.heap.size
  block : ∀ k, k < w.heap.size → k ≠ b → some k ≠ r → w'.heap[k]? = w.heap[k]?
  row : ∀ g, r' = some g → r = some g ∨ w.heap.size ≤ g
theorem Only.grown {b : Nat} {r r' : Option Nat} {a c d : World} (h : Only b r r' a c) (k : c.grownBy d r') : Only b r r' a d :=
  ⟨k.os.trans h.os, k.tape.trans h.tape, k.output.trans h.output, Nat.le_trans h.size k.size, fun i hi hb hr => (k.block i (Nat.lt_of_lt_of_le hi h.size) (fun e => by
    rcases h.row i e.symm with h1 | h1
    · exact hr h1.symm
    · omega)).trans (h.block i hi hb hr), h.row⟩
/-- What put leaves. -/
def PutRet (base : Nat) (w : World) (b : Nat) (v : Value) (l : List Pr) (x : Pr) (e : Ending) (w' : World) : Prop :=
  e = .returned (.tuple #[]) ∧ ∃ v' l', HpAt base w' b v' l' ∧ Pile l' ∧ l'.Perm (x :: l) ∧ Only b v.ownBlock v'.ownBlock w w'

theorem two_new (w : World) (o1 o2 : Obj) : ((w.alloc o1).alloc o2).drew.heap[w.heap.size + 1]? = some o2 := by
  show ((w.alloc o1).alloc o2).heap[w.heap.size + 1]? = some o2
  simpa using heap_alloc_new (w.alloc o1) o2
theorem put_done {base b g cp : Nat} {w w0 w2 : World} {v : Value} {l : List Pr} {x : Pr} (h : HpAt base w b v l) (hl : l.length ≤ 999) (hB : Below w.heap.size w w0)
    (hown : w2.ownsRow base 75 2 (.slice (some ⟨g, 0, none⟩) (l.length + 1) cp) (l.length + 1) (flat l ++ [.int .i64 x.1, .int .i64 x.2])) (hgrow : w0.grownBy w2 v.ownBlock) (hat : v.ownBlock = some g ∨ w.heap.size ≤ g) :
    HpAt base (w2.setCell ⟨b, 0, none⟩ (.slice (some ⟨g, 0, none⟩) (l.length + 1) cp)) b (.slice (some ⟨g, 0, none⟩) (l.length + 1) cp) (l ++ [x]) ∧ Only b v.ownBlock (some g) w (w2.setCell ⟨b, 0, none⟩ (.slice (some ⟨g, 0, none⟩) (l.length + 1) cp)) := by
  have hb0 : b < w0.heap.size := Nat.lt_of_lt_of_le h.lt hB.size
  have hb2 : w2.heap[b]? = some (.cells #[v] 72 (0, 0)) := by rw [hgrow.block b hb0 (fun e => h.ne e.symm), hB.block b h.lt]; exact h.cell
  have hgb : g ≠ b := by
    rcases hat with e | e
    · rintro rfl; exact h.ne e
    · have := h.lt; omega
  refine ⟨⟨h.ge, ?_, ?_, by simp; omega⟩, ⟨?_, ?_, ?_, ?_, fun k hk hkb hkr => ?_, fun g' e => by cases e; exact hat⟩⟩
  · rw [heap_setCell_same w2 b 0 _ _ _ hb2]
    rfl
  · have hs : w2.grownBy (w2.setCell ⟨b, 0, none⟩ (.slice (some ⟨g, 0, none⟩) (l.length + 1) cp)) (some b) := ⟨rfl, rfl, rfl, by simp [World.setCell], fun k _ hk => heap_setCell_other w2 ⟨b, 0, none⟩ k _ (fun e => hk (by simp [e]))⟩
    have := hown.kept hs (.inr (by simp only [Value.ownBlock, ne_eq, Option.some.injEq]; exact hgb))
    rw [flat_append, List.length_append]
    exact this
  · exact hgrow.os.trans hB.os
  · exact hgrow.tape.trans hB.tape
  · exact hgrow.output.trans hB.output
  · have h1 := hgrow.size
    have h2 := hB.size
    simp [World.setCell]
    omega
  · rw [heap_setCell_other w2 ⟨b, 0, none⟩ k _ hkb, hgrow.block k (Nat.lt_of_lt_of_le hk hB.size) hkr, hB.block k hk]
theorem rise_at {base : Nat} {w : World} {b : Nat} {v : Value} {l : List Pr} (h : HpAt base w b v l) (p : Nat) (y : Int) (hy : y = p) (hp : p < l.length) (hu : Up l p) :
    Calls Try.prog 45 #[.pointer (some ⟨b, 0, none⟩), .int .i64 y] w (MoveRet base w b v l) := by
  subst hy
  exact rise_any h p hp hu

set_option maxHeartbeats 4000000 in
theorem put_any {base : Nat} {w : World} {b : Nat} {v : Value} {l : List Pr} (h : HpAt base w b v l) (hp : Pile l) (hl : l.length ≤ 999) (x : Pr) :
    Calls Try.prog 42 #[.pointer (some ⟨b, 0, none⟩), .agg #[.int .i64 x.1, .int .i64 x.2]] w (PutRet base w b v l x) := by
  obtain ⟨ao, cap, rfl⟩ := h.form0
  obtain ⟨Q, HQ⟩ : ∃ Q, Hid (PutRet base w b (.slice ao l.length cap) l x = Q) := ⟨_, rfl⟩
  rw [HQ.out]
  obtain ⟨i0, hi0, hz0, hz1, hz2⟩ := info_parts ent_info
  have hlt := h.lt
  have hlt1 : b < w.heap.size + 1 := by omega
  have hlt2 : b < w.heap.size + 1 + 1 := by omega
  have hc := h.get
  have hf := h.thaw
  have hbase := h.base_le
  have H := Lib.hid h
  have HP := Lib.hid hp
  clear h hp
  obtain ⟨x1, x2⟩ := x
  dsimp only at *
  generalize hn : l.length = n at *
  have HN := Lib.hid hn
  clear hn
  obtain ⟨w0, HW0⟩ : ∃ w0, Hid (((w.alloc (Obj.cells #[Value.int IntKind.i64 x1, Value.int IntKind.i64 x2] 75)).alloc (Obj.cells #[Value.int IntKind.i64 x1, Value.int IntKind.i64 x2] 75)).drew = w0) := ⟨_, rfl⟩
  have hB : Below w.heap.size w ((w.alloc (Obj.cells #[Value.int IntKind.i64 x1, Value.int IntKind.i64 x2] 75)).alloc (Obj.cells #[Value.int IntKind.i64 x1, Value.int IntKind.i64 x2] 75)).drew := (((Below.refl _ w).alloc (Nat.le_refl _) _).alloc (by simp) _).drew
  have HH0 := Lib.hid (H.out.below hB)
  have HNEWS := Lib.hid (World.news_of_block (cs := #[.int .i64 x1, .int .i64 x2]) (t := 75) (fr := (0, 0)) (two_new w (Obj.cells #[Value.int IntKind.i64 x1, Value.int IntKind.i64 x2] 75) _))
  have HB := Lib.hid hB
  have HNE := Lib.hid (fun e => H.out.ne e : (Value.slice ao n cap).ownBlock ≠ some b)
  clear hB HW0
  go_enter Try.func42, Try.ntmps42
  go_wp2_with fail
  go_region_law ((refine step_append_lies _ (by rfl) _ _ _ (by rfl) base 75 i0 _ 2 16 Try.underlying68 hi0 hz0 hz1 hz2 rfl (by omega) (.slice ao n cap) n (flat l) (by rfl) (by rw [← HN.out]; exact HN.out ▸ HH0.out.row) ⟨w.heap.size + 1, 0, none⟩ 1 1 [.int .i64 x1, .int .i64 x2] (by rfl) (by rfl) HNEWS.out (by simp [Value.oneCell']) (by omega) (by unfold maxLen; omega) (by omega) (by simp; omega) (w.heap.size + 2) (by simp) ?_; intro g cp w2 hown hgrow hat hlt; have k5 := (hgrow.cell_far ⟨b, 0, none⟩ (by simp; omega) (fun e => HNE.out e.symm)).trans HH0.out.get; have kf := (hgrow.frozen_far ⟨b, 0, none⟩ (by simp; omega) (fun e => HNE.out e.symm)).trans HH0.out.thaw))
  all_goals
    have HD := Lib.hid (put_done (x := (x1, x2)) H.out (by rw [HN.out]; exact hl) HB.out (by rw [HN.out]; exact hown) hgrow (hat.imp id (fun e => by omega)))
    have HO := Lib.hid hown
    rw [HN.out] at HD
    clear hown hgrow hat k5 kf
    have h5 := HD.out.1.get
    have HUP := Lib.hid (HP.out.push (x1, x2))
    rw [HN.out] at HUP
    have HLN : Hid (n < (l ++ [((x1, x2) : Pr)]).length) := by
      show n < _
      rw [List.length_append, HN.out]
      exact Nat.lt_succ_self n
    generalize w2.setCell ⟨b, 0, none⟩ (.slice (some ⟨g, 0, none⟩) (n + 1) cp) = w3 at *
    go_wp2_with (go_at_call 45; (with_reducible refine (rise_at HD.out.1 n _ (by omega) HLN.out HUP.out).mono ?_); rintro e w4 ⟨rfl, l', h1, h2, h3, h4⟩)
    go_end0
    rw [← HQ.out]
    exact ⟨rfl, _, l', h1, h2, h3.trans (List.perm_append_singleton _ _), HD.out.2.grown h4⟩
end Go.Proofs.Ythmblgfcjbiomaa.Hp
