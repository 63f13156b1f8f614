import Derived.Test.YtgfkpfppdoeifaaGreatDoorSm
/- The contracts of what writes values, under way to Print. -/
set_option linter.unusedVariables false
set_option linter.unusedSimpArgs false
namespace Go.Proofs.YtgfkpfppdoeifaaGreatDoor.Js
open Go.RowKit Lex

theorem ownF_below {w w' : World} {base : Nat} {e : TypeId} {size n : Nat} {v : Value} {xs : List Value} (h : w.ownsRowF base e size v n xs) (hb : Below w.heap.size w w') : w'.ownsRowF base e size v n xs := by
  refine ⟨h.1, ?_⟩
  rcases h.2 with hn | ⟨g, cap, cur, fz, hv, hbg, hg, hr⟩
  · exact .inl hn
  · exact .inr ⟨g, cap, cur, fz, hv, hbg, (hb.block g (Own.block_lt hg)).trans hg, hr⟩
theorem isB_below {B b : Nat} {bs : List Value} {w w' : World} (h : Quo.IsB B b bs w) (hb : Below w.heap.size w w') : Quo.IsB B b bs w' := by
  rcases h with ⟨h1, v, h2, h3, h4⟩ | ⟨h1, v, h2, h3, h4⟩
  · exact .inl ⟨h1, v, (hb.block b (Own.block_lt h2)).trans h2, ownF_below h3 hb, h4⟩
  · exact .inr ⟨h1, v, (hb.block b (Own.block_lt h2)).trans h2, ownF_below h3 hb, h4⟩
theorem isB_of {B b : Nat} {bs : List Value} {w : World} (h : Quo.BAt B b bs w) : Quo.IsB B b bs w := .inr h
theorem isB_lt {B b : Nat} {bs : List Value} {w : World} (h : Quo.IsB B b bs w) : b < w.heap.size := by
  rcases h with ⟨h1, v, h2, h3, h4⟩ | ⟨h1, v, h2, h3, h4⟩ <;> exact Own.block_lt h2
theorem kept_below {b : Nat} {w w1 w' : World} (h : Quo.Kept b w w1) (hb : Below w1.heap.size w1 w') : Quo.Kept b w w' := fun k o h1 h2 h3 => by
  have := h k o h1 h2 h3
  rw [hb.block k (Own.block_lt this)]; exact this
/-- A block that is no row of bytes stays. -/
theorem kept_cells {b k : Nat} {w w' : World} {cs : Array Value} {T : TypeId} {f : Nat × Nat} (h : Quo.Kept b w w') (hk : w.heap[k]? = some (.cells cs T f)) (hb : k ≠ b) (hT : T ≠ 5) : w'.heap[k]? = some (.cells cs T f) :=
  h k _ hk (by simpa using hb) (fun c fz e => hT (by cases e; rfl))
theorem ws_of (B b : Nat) (acc l : List UInt8) (w : World) (h : Quo.IsB B b (Lib.byteCells acc) w) (hlen : acc.length + l.length ≤ 70368744177664) (hBw : B ≤ w.heap.size) :
    Calls Tryz.prog 95 #[.pointer (some ⟨b, 0, none⟩), .string ⟨l.toArray⟩] w fun e w' => ∃ x, e = .returned (.tuple #[x, .nilIface]) ∧ Quo.BAt B b (Lib.byteCells (acc ++ l)) w' ∧ Below B w w' ∧ Quo.Kept b w w' := by
  refine (Quo.writeString_any B b (Lib.byteCells acc) ⟨l.toArray⟩ w h (by rw [Lib.byteCells_length, bs_size]; omega) hBw).mono ?_
  rintro e w' ⟨rfl, h1, h2, h3⟩
  rw [Quo.cells_str] at h1
  exact ⟨_, rfl, h1, h2, h3⟩
theorem wb_of (B b : Nat) (acc : List UInt8) (c : UInt8) (z : Int) (hz : (c.toNat : Int) = z) (w : World) (h : Quo.IsB B b (Lib.byteCells acc) w) (hlen : acc.length + 1 ≤ 70368744177664) (hBw : B ≤ w.heap.size) :
    Calls Tryz.prog 98 #[.pointer (some ⟨b, 0, none⟩), .int .u8 z] w fun e w' => e = .returned .nilIface ∧ Quo.BAt B b (Lib.byteCells (acc ++ [c])) w' ∧ Below B w w' ∧ Quo.Kept b w w' := by
  subst hz
  refine (Quo.writeByte_any B b (Lib.byteCells acc) c.toNat w h (by rw [Lib.byteCells_length]; omega) hBw).mono ?_
  rintro e w' ⟨rfl, h1, h2, h3⟩
  rw [Quo.cells_byte] at h1
  exact ⟨rfl, h1, h2, h3⟩
theorem quote_of (t : List UInt8) (w : World) (ht : txtB t) (hw : Quo.wholeB t = true) : Calls Tryz.prog 139 #[.string ⟨t.toArray⟩] w (Ret (.tuple #[.string ⟨(Quo.quoteL t).toArray⟩, .bool true]) w) := by
  have hq := Quo.qBody_len _ t (Nat.le_refl _)
  unfold txtB at ht
  have := Quo.quote_any ⟨t.toArray⟩ w (by rw [bs_size]; omega) (by show (Quo.qBody t).length + 16 ≤ _; omega)
  rw [show (⟨t.toArray⟩ : ByteArray).data.toList = t from rfl] at this
  unfold Quo.quoV at this
  rw [hw, if_pos rfl] at this
  exact this

set_option maxHeartbeats 1000000 in
theorem wt_any (B b : Nat) (acc t : List UInt8) (w : World) (h : Quo.IsB B b (Lib.byteCells acc) w) (ht : txtB t) (hw : Quo.wholeB t = true) (hlen : acc.length + (Quo.quoteL t).length ≤ 70368744177664) (hBw : B ≤ w.heap.size) :
    Calls Tryz.prog 97 #[.pointer (some ⟨b, 0, none⟩), .string ⟨t.toArray⟩] w (Quo.Wrote B b (acc ++ Quo.quoteL t) w) := by
  have Q := Lib.hid (fun w => quote_of t w ht hw)
  have HL := Lib.hid hlen
  generalize Quo.quoteL t = q at *
  go_enter Tryz.func97, Tryz.ntmps97
  go_wp2_with (first | (go_at_call 139; (with_reducible refine (Q.out _).mono ?_); rintro e1 w1 ⟨rfl, hb1⟩) | (go_at_call 95; (with_reducible refine (ws_of B b acc q _ (isB_below h hb1) HL.out (Nat.le_trans hBw hb1.size)).mono ?_); rintro e2 w2 ⟨x, rfl, h2, hb2, hk2⟩))
  go_end0
  exact ⟨rfl, h2, (hb1.mono hBw).trans hb2, (kept_below (Lib.OthersKept.refl _ _ _) hb1).trans hk2⟩
end Go.Proofs.YtgfkpfppdoeifaaGreatDoor.Js
