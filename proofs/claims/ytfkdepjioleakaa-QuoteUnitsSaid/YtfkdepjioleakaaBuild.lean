/- Contracts of strings.Builder's writing methods at this program (the shelf's do not fit: copyCheck's body is another here). -/
import Derived.Test.YtfkdepjioleakaaShelf
import Derived.Test.YtfkdepjioleakaaChecked
import Derived.WalkKit
import Derived.BigCall
import Derived.Lib.Hide
set_option linter.unusedVariables false
set_option linter.unusedSimpArgs false
namespace Go.Proofs.Ytfkdepjioleakaa
open Go.RowKit

/-- A used builder, or any, of this program, in a block of its own, that holds bytes; and what a call on it leaves alone. -/
abbrev BAt (B b : Nat) (bs : List Value) (w : World) : Prop := Lib.BuilderAtF 44 5 B b (.pointer (some ⟨b, 0, none⟩)) bs w
abbrev IsB (B b : Nat) (bs : List Value) (w : World) : Prop := Lib.IsBuilderF 44 5 B b bs w
abbrev Kept (b : Nat) (w w' : World) : Prop := Lib.OthersKept 5 (some b) w w'
/-- What a method leaves: the builder with its bytes; all below it, and all that is no row of bytes, as it was. -/
def Left (B b : Nat) (bs : List Value) (w w' : World) : Prop := BAt B b bs w' ∧ Below B w w' ∧ Kept b w w'

theorem sizeB : ∃ j, Try.prog.info? 44 = some j ∧ j.size = 2 := Option.map_eq_some_iff.1 (show (Try.prog.info? 44).map (·.size) = some 2 by kernel_rfl)
theorem infoByte : (Try.prog.info? 5).map (fun i => (i.zero, i.size, i.bytes)) = some (some (.int .u8 0), 1, 1) := by kernel_rfl

set_option maxHeartbeats 1000000 in
set_option maxRecDepth 100000 in
theorem copyCheck_used (b : Nat) (w : World) (h0 : w.cell? ⟨b, 0, none⟩ = some (.pointer (some ⟨b, 0, none⟩))) :
    Calls Try.prog 29 #[.pointer (some ⟨b, 0, none⟩)] w fun e w' => e = .returned (.tuple #[]) ∧ w = w' := by
  obtain ⟨j, hj, _⟩ := sizeB
  have same : (binOp .neq 42 (.pointer (some ⟨b, 0, none⟩)) (.pointer (some ⟨b, 0, none⟩))).run Try.prog w = .ok (.bool false) w := Lib.run_neq_ptr_same w _ Try.underlying42 hj
  go_enter Try.func29, Try.ntmps29
  go_wp2
  all_goals first | (rw [same]; go_wp2) | skip
  all_goals go_end0
  all_goals exact ⟨rfl, rfl⟩

set_option maxHeartbeats 1000000 in
set_option maxRecDepth 100000 in
theorem copyCheck_fresh (b : Nat) (w : World) (h0 : w.cell? ⟨b, 0, none⟩ = some (.pointer none)) (hsh : w.shape? b = some (44, 2)) (hfz : w.frozen? ⟨b, 0, none⟩ = false) :
    Calls Try.prog 29 #[.pointer (some ⟨b, 0, none⟩)] w fun e w' => e = .returned (.tuple #[]) ∧ w.setCell ⟨b, 0, none⟩ (.pointer (some ⟨b, 0, none⟩)) = w' := by
  obtain ⟨j, hj, hjs⟩ := sizeB
  have there : (convert 42 65 (.pointer (some ⟨b, 0, none⟩))).run Try.prog w = .ok (.pointer (some ⟨b, 0, none⟩)) w :=
    Lib.run_to_unsafe w _ Try.underlying42 Try.underlying65 hj (by omega) hsh (Nat.zero_lt_succ 1)
  have back : (convert 65 42 (.pointer (some ⟨b, 0, none⟩))).run Try.prog w = .ok (.pointer (some ⟨b, 0, none⟩)) w :=
    Lib.run_from_unsafe w _ Try.underlying65 Try.underlying42 hj hsh (by kernel_rfl)
  have kept : (callFunc 38 #[.pointer (some ⟨b, 0, none⟩)]).run Try.prog w = _ :=
    run_callFunc_extern Try.func38 (by kernel_rfl) (by kernel_rfl) (by kernel_rfl) (e := Extern.AbiNoEscape.same) (by kernel_rfl) _ w
  rw [Lib.run_noEscape] at kept
  simp only [Result.andThen] at kept
  go_enter Try.func29, Try.ntmps29
  go_wp2
  go_end0
  exact ⟨rfl, rfl⟩

theorem copyCheck_any (B b : Nat) (bs : List Value) (w : World) (h : IsB B b bs w) :
    Calls Try.prog 29 #[.pointer (some ⟨b, 0, none⟩)] w fun e w' => e = .returned (.tuple #[]) ∧ Left B b bs w w' := by
  cases h with
  | inl h => exact (copyCheck_fresh b w h.cell0 h.shape h.frozen0).mono fun e w' k => ⟨k.1, k.2 ▸ ⟨h.used _, (Below.refl B w).setCell h.1 _, (Lib.OthersKept.refl _ (some b) w).setCell ⟨b, 0, none⟩ rfl _⟩⟩
  | inr h => exact (copyCheck_used b w h.cell0).mono fun e w' k => ⟨k.1, k.2 ▸ ⟨h, Below.refl B _, Lib.OthersKept.refl _ _ _⟩⟩

/-- A used builder, looked into: v is its buffer. -/
structure Opened (B b : Nat) (bs : List Value) (v : Value) (w : World) : Prop where
  base : B ≤ b
  block : w.heap[b]? = some (.cells #[.pointer (some ⟨b, 0, none⟩), v] 44 (0, 0))
  row : w.ownsRowF B 5 1 v bs.length bs
  other : v.ownBlock ≠ some b
theorem opened {B b : Nat} {bs : List Value} {w : World} (h : BAt B b bs w) : ∃ v, Opened B b bs v w := by
  obtain ⟨h1, v, h2, h3, h4⟩ := h
  exact ⟨v, h1, h2, h3, h4⟩
section
variable {B b : Nat} {bs bs' : List Value} {v v' : Value} {w w0 w' : World}
theorem Opened.lt (h : Opened B b bs v w) : b < w.heap.size := (Array.getElem?_eq_some_iff.1 h.block).1
theorem Opened.buf (h : Opened B b bs v w) : w.cell? ⟨b, 1, none⟩ = some v := by rw [Lib.cell_of_heap h.block]; rfl
theorem Opened.slice (h : Opened B b bs v w) : ∃ ao cap, v = .slice ao bs.length cap := by
  rcases h.row.2 with ⟨rfl, hn⟩ | ⟨g, cap, _, _, rfl, _⟩
  · exact ⟨none, 0, by rw [hn]⟩
  · exact ⟨_, cap, rfl⟩
theorem Opened.alloc (h : Opened B b bs v w) (o : Obj) : Opened B b bs v (w.alloc o) :=
  ⟨h.base, by rw [Lib.alloc_old w o b h.lt]; exact h.block, h.row.alloc o, h.other⟩
theorem Opened.still (h : Opened B b bs v w) (hg : w.grownBy w' v.ownBlock) : w'.heap[b]? = some (.cells #[.pointer (some ⟨b, 0, none⟩), v] 44 (0, 0)) := by
  rw [hg.block b h.lt fun e => h.other e.symm]; exact h.block
theorem Opened.buf' (h : Opened B b bs v w) (hg : w.grownBy w' v.ownBlock) : w'.cell? ⟨b, 1, none⟩ = some v := by rw [Lib.cell_of_heap (h.still hg)]; rfl
theorem Opened.free (h : Opened B b bs v w) (hg : w.grownBy w' v.ownBlock) : w'.frozen? ⟨b, 1, none⟩ = false := Lib.frozen_of_heap (h.still hg) 1
/-- The buffer has grown, and is laid into the builder anew. -/
theorem Opened.put (h : Opened B b bs v w) (hg : w.grownBy w' v.ownBlock) (hr : w'.ownsRowF B 5 1 v' bs'.length bs') (hB : B ≤ w.heap.size) (hb : Below B w0 w) (hk : Kept b w0 w) :
    Left B b bs' w0 (w'.setCell ⟨b, 1, none⟩ v') :=
  ⟨Lib.BuilderAtF.put h.base (h.still hg) hr (by decide), (hb.grown hg hB fun k e => (h.row.lt k e).1).setCell h.base _, (hk.grown hg (Lib.ownsRowF_kind h.row)).setCell ⟨b, 1, none⟩ rfl _⟩
end

set_option maxHeartbeats 2000000 in
set_option maxRecDepth 100000 in
theorem writeByte_any (B b : Nat) (bs : List Value) (c : Int) (w : World) (h : IsB B b bs w) (hlen : bs.length + 1 ≤ 140737488355328) (hBw : B ≤ w.heap.size) :
    Calls Try.prog 20 #[.pointer (some ⟨b, 0, none⟩), .int .u8 c] w fun e w' => e = .returned .nilIface ∧ Left B b (bs ++ [.int .u8 c]) w w' := by
  obtain ⟨i0, hi, hz0, hz1, hz2⟩ := info_parts infoByte
  go_enter Try.func20, Try.ntmps20
  go_wp2_with (go_at_call 29; refine (copyCheck_any B b bs _ h).mono ?_)
  rintro e w1 ⟨rfl, hB1, hb1, hk1⟩
  obtain ⟨v, O⟩ := opened hB1
  have hz : B ≤ w1.heap.size := Nat.le_trans hBw hb1.size
  have hcell := O.buf
  have O1 := O.alloc (.cells #[.int .u8 c] 5)
  go_wp2_with (at_builtin; refine wpList_append_ownF _ rfl _ _ 36 rfl B 5 i0 (.int .u8 0) 1 1 Try.underlying36 hi hz0 hz1 hz2 rfl (by decide) _ _ _ rfl O1.row ⟨w1.heap.size, 0, none⟩ 1 1 [.int .u8 c] rfl rfl ?cell ?one ?len ?bytes ?from_ ?_)
  case cell =>
    intro j u hj
    obtain rfl : j = 0 := by have := (List.getElem?_eq_some_iff.1 hj).1; simp at this; omega
    obtain rfl : .int .u8 c = u := Option.some.inj hj
    simp [Addr.add]
  case one => intro u hu; rw [List.mem_singleton.1 hu]; rfl
  case len => unfold maxLen; omega
  case bytes => omega
  case from_ => simp; omega
  intro v2 w2 hr hg _
  have hbuf := O1.buf' hg
  have hfree := O1.free hg
  have hL := O1.put hg (bs' := bs ++ [.int .u8 c]) (by rw [List.length_append]; exact hr) (by simp; omega) (hb1.alloc hz _) (hk1.alloc _)
  obtain ⟨ao, n2, c2, rfl⟩ : ∃ ao n2 c2, v2 = .slice ao n2 c2 := by
    rcases hr.2 with ⟨e, _⟩ | ⟨g, cp, _, _, e, _⟩ <;> exact ⟨_, _, _, e⟩
  go_wp2
  go_ret
  exact ⟨rfl, hL⟩

set_option maxHeartbeats 2000000 in
set_option maxRecDepth 100000 in
theorem writeString_any (B b : Nat) (bs : List Value) (s : ByteArray) (w : World) (h : IsB B b bs w) (hlen : bs.length + s.size ≤ 140737488355328) (hBw : B ≤ w.heap.size) :
    Calls Try.prog 31 #[.pointer (some ⟨b, 0, none⟩), .string s] w fun e w' => e = .returned (.tuple #[.int .i64 s.size, .nilIface]) ∧ Left B b (bs ++ Lib.strCells s) w w' := by
  obtain ⟨i0, hi, hz0, hz1, hz2⟩ := info_parts infoByte
  go_enter Try.func31, Try.ntmps31
  go_wp2_with (go_at_call 29; refine (copyCheck_any B b bs _ h).mono ?_)
  rintro e w1 ⟨rfl, hB1, hb1, hk1⟩
  obtain ⟨v, O⟩ := opened hB1
  have hz : B ≤ w1.heap.size := Nat.le_trans hBw hb1.size
  have hcell := O.buf
  go_wp2_with (at_builtin; refine Lib.wpList_append_own_stringF _ rfl _ _ 36 9 rfl B 5 i0 Try.underlying36 Try.underlying9 hi hz0 hz1 hz2 _ _ _ rfl O.row s rfl ?len hlen hz ?_)
  case len => unfold maxLen; omega
  intro v2 w2 hr hg _
  have hbuf := O.buf' hg
  have hfree := O.free hg
  have hL := O.put hg (bs' := bs ++ Lib.strCells s) (by rw [List.length_append, Lib.strCells_length]; exact hr) hz hb1 hk1
  obtain ⟨ao, n2, c2, rfl⟩ : ∃ ao n2 c2, v2 = .slice ao n2 c2 := by
    rcases hr.2 with ⟨e, _⟩ | ⟨g, cp, _, _, e, _⟩ <;> exact ⟨_, _, _, e⟩
  go_wp2
  go_ret2
  exact ⟨rfl, hL⟩

set_option maxHeartbeats 2000000 in
set_option maxRecDepth 100000 in
theorem writeRune_any (B b : Nat) (bs : List Value) (r : Int) (hr0 : -2147483648 ≤ r) (hr1 : r ≤ 2147483647) (w : World) (h : IsB B b bs w) (hlen : bs.length + 4 ≤ 140737488355328) (hBw : B ≤ w.heap.size) :
    Calls Try.prog 25 #[.pointer (some ⟨b, 0, none⟩), .int .i32 r] w fun e w' => e = .returned (.tuple #[.int .i64 (Lib.runeCells r).length, .nilIface]) ∧ Left B b (bs ++ Lib.runeCells r) w w' := by
  have hk4 := Lib.runeCells_le r
  go_enter Try.func25, Try.ntmps25
  go_wp2_with (go_at_call 29; refine (copyCheck_any B b bs _ h).mono ?_)
  rintro e w1 ⟨rfl, hB1, hb1, hk1⟩
  obtain ⟨v, O⟩ := opened hB1
  obtain ⟨ao, cap, rfl⟩ := O.slice
  have hz : B ≤ w1.heap.size := Nat.le_trans hBw hb1.size
  have hcell := O.buf
  go_wp2_with (go_at_call 35; refine (Try.utf8_AppendRune_row B _ bs.length bs r hr0 hr1 _ O.row hlen hz).mono ?_)
  rintro e w2 ⟨v2, rfl, hr, o, hg⟩
  have O1 := O.alloc o
  have hbuf := O1.buf' hg
  have hfree := O1.free hg
  have hL := O1.put hg (bs' := bs ++ Lib.runeCells r) (by rw [List.length_append]; exact hr) (by simp; omega) (hb1.alloc hz _) (hk1.alloc _)
  obtain ⟨a2, c2, rfl⟩ : ∃ a2 c2, v2 = .slice a2 (bs.length + (Lib.runeCells r).length) c2 := by
    rcases hr.2 with ⟨_, hn⟩ | ⟨g, cp, _, _, e, _⟩
    · omega
    · exact ⟨_, _, e⟩
  go_wp2
  go_ret2
  refine ⟨?_, hL⟩
  rw [show (Lib.runeCells r).length = bs.length + (Lib.runeCells r).length - bs.length by omega]
  simp
  omega
end Go.Proofs.Ytfkdepjioleakaa
