import Derived.Test.YtkmiemaigalgpaaRl
import Derived.Test.YtkmiemaigalgpaaRn
import Derived.Test.YtkmiemaigalgpaaFl
import Derived.Test.YtkmiemaigalgpaaMx
/- What the walk of FieldTells leans on: values in boxes, a name ahead of names, what both sides tell. -/
set_option linter.unusedVariables false
set_option linter.unusedSimpArgs false
namespace Go.Proofs.Ytkmiemaigalgpaa.Js
open Go.RowKit Lex

/-- What both sides tell is one. -/
theorem with_tell {α : Type} (z : α) (f : J → α × Bool) (j : J) (nm : List UInt8) : withG (z, false) f (getS j nm) = tellG z f j nm := by
  unfold withG getS tellG
  by_cases h : plc j nm < 0
  · rw [if_pos h, if_pos h, if_neg (by simp)]
  · rw [if_neg h, if_neg h, if_pos rfl]
theorem flag_tell (j : J) (nm : List UInt8) : withG (false, false) flagS (getS j nm) = tellG false flagS j nm := with_tell false flagS j nm
theorem sameL_refl (l : List J) : sameL l l = true := by
  have h := sameJ_refl (.mk 6 0 0 [] [] l)
  rw [sameJ] at h
  simpa using h

/-- A value in a box. -/
structure BX (D : Nat) (j : J) (Y : Array Value) (b : Nat) (w : World) : Prop where
  box : w.heap[b]? = some (.cells Y 27 (0, 0))
  jat : JAt Any w D (.agg Y) j
theorem BX.below {D : Nat} {j : J} {Y : Array Value} {b : Nat} {w w' : World} (h : BX D j Y b w) (hb : Below w.heap.size w w') : BX D j Y b w' :=
  ⟨(hb.block _ (Own.block_lt h.box)).trans h.box, h.jat.below hb (Nat.le_refl _)⟩
theorem BX.new {S : Nat → Prop} {D : Nat} {j : J} {Y : Array Value} {w : World} (h : JAt S w D (.agg Y) j) : BX D j Y w.heap.size (w.alloc (.cells Y 27)) :=
  ⟨heap_alloc_new _ _, h.any.below (belowOne _ _) (Nat.le_refl _)⟩
/-- .. and all else as it was. -/
structure YT (w0 : World) (D : Nat) (j : J) (Y : Array Value) (b : Nat) (w : World) : Prop where
  bel : Below w0.heap.size w0 w
  bx : BX D j Y b w
theorem YT.below {w0 : World} {D : Nat} {j : J} {Y : Array Value} {b : Nat} {w w' : World} (h : YT w0 D j Y b w) (hb : Below w.heap.size w w') : YT w0 D j Y b w' :=
  ⟨h.bel.trans (hb.mono h.bel.size), h.bx.below hb⟩
theorem YT.box {w0 : World} {D : Nat} {j : J} {Y : Array Value} {b : Nat} {w : World} (h : YT w0 D j Y b w) (o : Obj) : YT w0 D j Y b (w.alloc o) := h.below (belowOne _ _)

/-- Names, one behind the other, in a row that is there. -/
def SA (w : World) (g L : Nat) (l : List (List UInt8)) : Prop := g < w.heap.size ∧ l.length = L ∧ ∀ q, q < L → w.cell? ⟨g, q, none⟩ = some (.string ⟨(l.getD q []).toArray⟩)
theorem SA.cell {w w' : World} {g L : Nat} {l : List (List UInt8)} (h : SA w g L l) (hb : Below w.heap.size w w') {q : Nat} (hq : q < L) : w'.cell? ⟨g, q, none⟩ = some (.string ⟨(l.getD q []).toArray⟩) :=
  (World.cell?_of_block (w := w) (a := ⟨g, q, none⟩) (hb.block g h.1)).trans (h.2.2 q hq)
theorem run_append_strs (ty : TypeId) (S : Nat → Prop) (w : World) (g B : Nat) (nm : List UInt8) (an : Option Addr) (nn cn : Nat) (ns : List (List UInt8)) (hg : w.heap[g]? = some (.cells #[.string ⟨nm.toArray⟩] 9 (0, 0))) (hB : B ≤ g) (hN : StrsAt S w (.slice an nn cn) ns) :
    ∃ g' c' w', (Builtin.append_ #[24, 24] ty #[.slice (some ⟨g, 0, none⟩) 1 1, .slice an nn cn]).run Try.prog w = .ok (.slice (some ⟨g', 0, none⟩) (1 + nn) c') w' ∧ 1 + nn ≤ c' ∧ SA w' g' (1 + nn) (nm :: ns) ∧ Below B w w' := by
  obtain ⟨i1, hi1, hx0, hx1, hx2⟩ := info_parts str_info2
  obtain ⟨ao, cap, e, hc, hmx, htx, hcl⟩ := hN
  simp only [Value.slice.injEq] at e
  obtain ⟨rfl, rfl, rfl⟩ := e
  have hgl := Own.block_lt hg
  by_cases h0 : ns.length = 0
  · obtain rfl : ns = [] := List.length_eq_zero_iff.1 h0
    refine ⟨g, 1, w, ?_, by simp, ⟨hgl, by simp, fun q hq => ?_⟩, Below.refl _ _⟩
    · cases an with
      | none => exact run_append_nothing w _ _ _ _ i1 Try.underlying24 hi1 (some ⟨g, 0, none⟩) 1 1 (Nat.le_refl _) _ (Src.ofNil w Try.underlying24 cn)
      | some a => exact run_append_nothing w _ _ _ _ i1 Try.underlying24 hi1 (some ⟨g, 0, none⟩) 1 1 (Nat.le_refl _) _ (Src.ofSlice w Try.underlying24 a 0 cn [] (by simp) (fun j u h => by simp at h) (fun u h => by simp at h))
    · obtain rfl : q = 0 := by simp at hq; omega
      rw [cell_of_row _ _ _ _ _ _ hg]; rfl
  · obtain ⟨b, off, rfl, _, hb, hel⟩ := hcl (by omega)
    have hown : w.ownsRow B 9 1 (.slice (some ⟨g, 0, none⟩) 1 1) 1 [strW nm] := ⟨rfl, .inr ⟨g, 1, #[strW nm], rfl, hB, hg, Nat.le_refl _, by unfold maxLen; omega, rfl, rfl⟩⟩
    obtain ⟨v', w', hr, hown', hgrow, hn, hat⟩ := run_append_own_at (P := Try.prog) w B 24 ty 9 i1 _ 1 16 Try.underlying24 hi1 hx0 hx1 hx2 rfl (by decide) (.slice (some ⟨g, 0, none⟩) 1 1) 1 [strW nm] hown ⟨b, off, none⟩ ns.length cn (ns.map strW) (by simp) (fun j u h => by
      rw [plain_add]
      have hj : j < ns.length := by have := (List.getElem?_eq_some_iff.1 h).1; simpa using this
      rw [hel j hj, List.getD_eq_getElem?_getD, List.getElem?_eq_getElem hj]
      rw [List.getElem?_map, List.getElem?_eq_getElem hj] at h
      simpa using h) (fun u h => by obtain ⟨_, _, rfl⟩ := List.mem_map.1 h; rfl) (by unfold maxLen; omega) (by omega) (by omega)
    obtain ⟨g', c', rfl, hbg', hgl'⟩ := hown'.form (by omega)
    refine ⟨g', c', w', hr, ?_, ⟨hgl', by simp; omega, fun q hq => ?_⟩, ⟨hgrow.os, hgrow.tape, hgrow.output, by have := hgrow.size; omega, fun x hx => hgrow.block x (by omega) (by intro e; simp [Value.ownBlock] at e; omega)⟩⟩
    · rcases hown'.2 with ⟨e, _⟩ | ⟨_, _, _, e, _, _, hle, _⟩
      · cases e
      · cases e; exact hle
    · have := hown'.cellAt q (by omega)
      rw [this]
      have hq2 : q < (nm :: ns).length := by simp; omega
      show ((nm :: ns).map strW)[q]? = _
      rw [List.getElem?_map, List.getElem?_eq_getElem hq2, List.getD_eq_getElem?_getD, List.getElem?_eq_getElem hq2]
      rfl
theorem wpList_append_strs {ops : Array Oper} {rest : List Oper} {o : Oper} {a : Act} {w : World} {Q : Exit → Act → World → Prop} (hgd : o.guard = none) (s x : Operand)
    (ho : o.op = .call { callee := .builtin .append, args := #[s, x], argTypes := #[24, 24] }) (g : Nat) (hs : a.eval s = .slice (some ⟨g, 0, none⟩) 1 1) (an : Option Addr) (nn cn : Nat) (hx : a.eval x = .slice an nn cn)
    (S : Nat → Prop) (B : Nat) (nm : List UInt8) (ns : List (List UInt8)) (hg : w.heap[g]? = some (.cells #[.string ⟨nm.toArray⟩] 9 (0, 0))) (hB : B ≤ g) (hN : StrsAt S w (.slice an nn cn) ns) (L : Nat) (hL : 1 + nn = L)
    (h : ∀ g' c' w', L ≤ c' → SA w' g' L (nm :: ns) → Below B w w' → wpList Try.prog ops Q rest (a.put o.dst (.slice (some ⟨g', 0, none⟩) L c')) w') : wpList Try.prog ops Q (o :: rest) a w := by
  subst hL
  obtain ⟨g', c', w', hr, h1, h2, h3⟩ := run_append_strs o.type S w g B nm an nn cn ns hg hB hN
  refine wpList_plain hgd fun _ hK => ?_
  unfold Oper.wp execOp
  simp only [ho, resolve, invoke, builtin, Sem.run_bind, Sem.run_pure, Result.andThen_ok, List.map_toArray, List.map_cons, List.map_nil, hs, hx, hr]
  exact hK _ _ (h g' c' w' h1 h2 h3)
/-- The first names. -/
theorem StrsAt.take {S : Nat → Prop} {w : World} {an : Option Addr} {nn cn : Nat} {ns : List (List UInt8)} (h : StrsAt S w (.slice an nn cn) ns) (k : Nat) : StrsAt S w (.slice an (ns.take k).length cn) (ns.take k) := by
  obtain ⟨ao, cap, e, hc, hmx, htx, hcl⟩ := h
  simp only [Value.slice.injEq] at e
  obtain ⟨rfl, rfl, rfl⟩ := e
  have hl : (ns.take k).length ≤ ns.length := by simp; omega
  refine ⟨an, cn, rfl, by omega, by omega, fun n hn => htx n (List.mem_of_mem_take hn), fun hp => ?_⟩
  obtain ⟨b, off, e1, e2, e3, e4⟩ := hcl (by omega)
  refine ⟨b, off, e1, e2, e3, fun j hj => ?_⟩
  have hjk : j < k := by simp at hj; omega
  rw [List.getD_eq_getElem?_getD, List.getElem?_take, if_pos hjk, ← List.getD_eq_getElem?_getD]
  exact e4 j (by omega)
end Go.Proofs.Ytkmiemaigalgpaa.Js
