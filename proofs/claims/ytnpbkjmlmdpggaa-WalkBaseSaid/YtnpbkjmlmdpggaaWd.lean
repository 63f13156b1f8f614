import Derived.Test.YtnpbkjmlmdpggaaWc
import Derived.RangeFuncBox
import Derived.Maps.AppendAt
/- Rows that grow in a round; Stops. -/
set_option linter.unusedVariables false
set_option linter.unusedSimpArgs false
namespace Go.Proofs.Ytnpbkjmlmdpggaa.Wk
open Go.RowKit Go.Shelf Ly
attribute [local go_sem] Oper.semAt_some

theorem kv_store {U : Nat → Prop} {W w1 : World} {base b o : Nat} (h : Below base W w1) (hU : ∀ k, U k → k < base ∧ k ≠ b) (v : Value) : Kv U W (w1.setCell ⟨b, o, none⟩ v) :=
  ⟨by simpa [World.setCell] using h.size, fun k hk => (Below.heap_setCell w1 ⟨b, o, none⟩ v k (hU k hk).2).trans (h.block k (hU k hk).1)⟩
theorem own_gw {B base : Nat} {X Y : World} {e : TypeId} {s n : Nat} {v : Value} {xs : List Value} (h : X.ownsRow base e s v n xs) (g : Gw B X Y) (hb : B + 2 ≤ base) : Y.ownsRow base e s v n xs := by
  refine ⟨h.1, ?_⟩
  rcases h.2 with hn | ⟨b, cap, cur, hv, hbg, hg, hr⟩
  · exact .inl hn
  · exact .inr ⟨b, cap, cur, hv, hbg, (g.block b (Array.getElem?_eq_some_iff.1 hg).1 (by omega) (by omega)).trans hg, hr⟩
/-- A cell holds a row of one's own. -/
def RowIn (base : Nat) (e : TypeId) (s : Nat) (b o : Nat) (n : Nat) (xs : List Value) (W : World) : Prop := ∃ v, HoldsA W b o v ∧ W.ownsRow base e s v n xs
theorem RowIn.gw {B base : Nat} {X Y : World} {e : TypeId} {s b o n : Nat} {xs : List Value} (h : RowIn base e s b o n xs X) (g : Gw B X Y) (h1 : b < B) (h2 : B + 2 ≤ base) : RowIn base e s b o n xs Y := by
  obtain ⟨v, hv, hr⟩ := h
  exact ⟨v, hv.gw g h1, own_gw hr g h2⟩
/-- Two blocks just made. -/
theorem two_cells (w : World) (v1 v2 : Array Value) (t1 t2 : TypeId) {w2 : World} (h : (w.alloc (.cells v1 t1)).alloc (.cells v2 t2) = w2) :
    Below w.heap.size w w2 ∧ w2.heap.size = w.heap.size + 2 ∧ (∀ (o : Nat) (v : Value), v1[o]? = some v → HoldsA w2 w.heap.size o v) ∧ ∀ (o : Nat) (v : Value), v2[o]? = some v → HoldsA w2 (w.heap.size + 1) o v := by
  subst h
  have b1 : Below w.heap.size w (w.alloc (.cells v1 t1)) := (Below.refl _ _).alloc (Nat.le_refl _) _
  have b2 : Below (w.alloc (.cells v1 t1)).heap.size (w.alloc (.cells v1 t1)) ((w.alloc (.cells v1 t1)).alloc (.cells v2 t2)) := (Below.refl _ _).alloc (Nat.le_refl _) _
  refine ⟨b1.trans (b2.mono b1.size), by simp, fun o v h => (HoldsA.new w v1 t1 o v h).grow b2, fun o v h => ?_⟩
  have := HoldsA.new (w.alloc (.cells v1 t1)) v2 t2 o v h
  rwa [World.size_alloc] at this
/-- What Stops has come to behind k elements. -/
def stopsN (p : List Int) (k : Nat) : List Int := (List.range ((k + 1) / 2)).map fun j => pi p (2 * j)
theorem stopsN_len (p : List Int) (k : Nat) : (stopsN p k).length = (k + 1) / 2 := by simp [stopsN]
theorem stopsN_odd (p : List Int) {k : Nat} (h : k % 2 = 1) : stopsN p (k + 1) = stopsN p k := by
  unfold stopsN
  rw [show (k + 1 + 1) / 2 = (k + 1) / 2 by omega]
theorem stopsN_even (p : List Int) {k : Nat} (h : ¬ k % 2 = 1) : stopsN p (k + 1) = stopsN p k ++ [pi p k] := by
  unfold stopsN
  rw [show (k + 1 + 1) / 2 = (k + 1) / 2 + 1 by omega, List.range_succ, List.map_append, List.map_singleton, show 2 * ((k + 1) / 2) = k by omega]
theorem stopsN_all (p : List Int) : stopsN p p.length = stopsL p := rfl
set_option maxRecDepth 100000 in
set_option maxHeartbeats 2000000 in
theorem stops_any {p : List Int} {w : World} (v : Value) (hp : IntsAt w v p) (hl : p.length * 8 ≤ 140737488355328) : Calls Try.prog 16 #[v] w (RetInts (stopsL p) w) := by
  obtain ⟨Q, HQ⟩ : ∃ Q, Hid (RetInts (stopsL p) w = Q) := ⟨_, rfl⟩
  rw [HQ.out]
  obtain ⟨i0, hi, hz0, hz1, hz2⟩ := info_parts int_info
  have HP := Lib.hid hp
  obtain ⟨ao, ac, rfl, -, -⟩ := hp
  obtain ⟨N, HN⟩ : ∃ N, Hid (p.length = N) := ⟨_, rfl⟩
  rw [HN.out] at HP hl
  rw [HN.out]
  have HL := Lib.hid hl
  clear hl
  refine (callsIn_wide (n := 6)).1 ?_
  refine callsIn_of_wp_marks Try.func16 rfl trivial ?_ rfl
  simp only [Try.ntmps16, List.size_toArray, List.length_cons, List.length_nil, Nat.reduceAdd, Nat.reduceSub, Array.replicate_succ, Array.replicate_zero, List.push_toArray, List.append_toArray, List.nil_append, List.cons_append]
  gi_wp2_with (refine ⟨trivial, ?_⟩; gi_at_call 33; refine (callsIn_wide.2 (byTurns_any _ ⟨_, _, _, rfl⟩ _)).mono ?_; rintro e w' ⟨rfl, rfl⟩)
  have H0 := HoldsA.new w #[.slice none 0 0] 27 0 _ rfl
  have H1 := HoldsA.new (w.alloc (.cells #[.slice none 0 0] 27)) #[.slice ao N ac] 27 0 _ rfl
  have b1 : Below w.heap.size w (w.alloc (.cells #[.slice none 0 0] 27)) := (Below.refl _ _).alloc (Nat.le_refl _) _
  have b2 : Below (w.alloc (.cells #[.slice none 0 0] 27)).heap.size (w.alloc (.cells #[.slice none 0 0] 27)) ((w.alloc (.cells #[.slice none 0 0] 27)).alloc (.cells #[.slice ao N ac] 27)) := (Below.refl _ _).alloc (Nat.le_refl _) _
  replace H0 := H0.grow b2
  have HB := b1.trans (b2.mono b1.size)
  have hs : ((w.alloc (.cells #[.slice none 0 0] 27)).alloc (.cells #[.slice ao N ac] 27)).heap.size = w.heap.size + 1 + 1 := by simp
  rw [World.size_alloc] at H1
  clear b1 b2
  generalize (w.alloc (.cells #[.slice none 0 0] 27)).alloc (.cells #[.slice ao N ac] 27) = w1 at *
  refine wpIn_rangeFunc_ownV1 (by rfl) (by omega) (gf := 45) (lb := #[.pointer (some ⟨w.heap.size + 1, 0, none⟩)]) rfl trivial (enters_of Try.func45 (by kernel_rfl) rfl)
    (turns_seq (V := fun k => k < w.heap.size ∨ k = w.heap.size + 1) 5 (by omega) HP.out HB (fun _ h => .inl h) H1.1 (by omega)) (fun _ => rfl) (fun k (hk : k < w.heap.size ∨ k = w.heap.size + 1) => by omega)
    (fun pre W => Hid (RowIn (w1.heap.size + 2) 3 1 w.heap.size 0 ((pre.length + 1) / 2) (intC (stopsN p pre.length)) W) ∧ Hid (Below w.heap.size w W))
    (fun c pre W => False)
    (fun s X Y g h => ⟨h.1.out.gw g (by omega) (Nat.le_refl _), below_gw h.2.out g (by omega) (Nat.le_refl _)⟩)
    (fun c s X Y g h => h)
    ⟨⟨_, H0, World.ownsRow_nil _ _ _ _⟩, HB⟩ ⟨_, fun l x W K hK => by gi_wp2; exact hK, ?body⟩ ?done ?stop
  case body =>
    rintro l pre ⟨x, t⟩ W hsz ⟨HH, HBW⟩ hsp
    obtain ⟨hlt, -, hx⟩ := turns_next hsp
    obtain ⟨rfl, rfl⟩ := (Prod.mk.injEq .. ▸ hx : _ ∧ _)
    have HPL := Lib.hid (show (pre ++ [(ati p pre.length, decide (pre.length % 2 = 1))]).length = pre.length + 1 by simp)
    obtain ⟨v, hv, hrow⟩ := HH.out
    obtain ⟨c0, f0⟩ := hv
    have hpl : pre.length < N := by rw [← HN.out]; exact hlt
    have HT := Lib.hid (show ∀ b, decide (pre.length % 2 = 1) = b → (b = true → stopsN p (pre.length + 1) = stopsN p pre.length ∧ (pre.length + 1 + 1) / 2 = (pre.length + 1) / 2) ∧ (b = false → stopsN p (pre.length + 1) = stopsN p pre.length ++ [ati p pre.length] ∧ (pre.length + 1 + 1) / 2 = (pre.length + 1) / 2 + 1) from fun b hb => ⟨fun h => by
        subst h; exact ⟨stopsN_odd p (of_decide_eq_true hb), by have := of_decide_eq_true hb; omega⟩, fun h => by
        subst h; exact ⟨stopsN_even p (of_decide_eq_false hb), by have := of_decide_eq_false hb; omega⟩⟩)
    obtain ⟨t, ht⟩ : ∃ t, decide (pre.length % 2 = 1) = t := ⟨_, rfl⟩
    have HT2 := Lib.hid (HT.out t ht)
    have HBB := Lib.hid HBW.out.size
    rw [ht] at HPL ⊢
    have hU : Hid (∀ k, VB (fun k => k < w.heap.size ∨ k = w.heap.size + 1) w1.heap.size k → k < w1.heap.size + 2 ∧ k ≠ w.heap.size) := fun k hk => by
      rcases hk with h | h | h
      · have : k < w.heap.size ∨ k = w.heap.size + 1 := h
        omega
      all_goals omega
    have hbl : Hid (w.heap.size < w1.heap.size) := by show _ < _; omega
    have hsz' := Lib.hid hsz
    clear hsp hlt hx HP hs hsz HT ht HBB
    generalize ati p pre.length = x at *
    generalize stopsN p pre.length = L at *
    generalize (pre.length + 1) / 2 = q at *
    cases t with
    | true =>
      gi_wp2
      refine ⟨Kv.refl _ _, ?_, HBW⟩
      show RowIn _ _ _ _ _ _ _ _
      rw [HPL.out, (HT2.out.1 (by first | rfl | trivial)).1, (HT2.out.1 (by first | rfl | trivial)).2]
      exact HH.out
    | false =>
      have HT3 := HT2.out.2 rfl
      have HLn := Lib.hid (show q + 1 ≤ N by have := HL.out; have := hrow.1; have := HPL.out; omega)
      clear HT2
      gi_wp2_with (gi_at_builtin; refine wpListIn_append_own _ rfl _ _ 27 rfl (w1.heap.size + 2) 3 i0 (.int .i64 0) 1 8 Try.underlying27 hi hz0 hz1 hz2 rfl (by decide) _ _ _ rfl (hrow.alloc _) ⟨W.heap.size, 0, none⟩ 1 1 [.int .i64 x] rfl rfl (cell_one_new _ _ _) (by simp [Value.oneCell']) (by have := HL.out; have := HLn.out; unfold maxLen; omega) (by have := HL.out; have := HLn.out; omega) (by have := hsz'.out; simp; omega) ?_; intro v' w3 hown' hgrow _; obtain ⟨g', cap', rfl⟩ := ownsRow_succ hown'; have HB3 := Lib.hid (row_below hrow hgrow (Below.refl _ _) hsz'.out); have HH3 := Lib.hid ((HoldsA.below ⟨c0, f0⟩ HB3.out (by have := hbl.out; omega) : HoldsA w3 w.heap.size 0 v)); obtain ⟨c3, f3⟩ := HH3.out)
      refine ⟨kv_store HB3.out hU.out _, ?_, (HBW.out.trans (HB3.out.mono (by have := hbl.out; omega))).setCell (p := ⟨w.heap.size, 0, none⟩) (Nat.le_refl _) _⟩
      show RowIn _ _ _ _ _ _ _ _
      rw [HPL.out, HT3.1, HT3.2, intC_append]
      exact ⟨_, HH3.out.set _, ownsRow_setCell_below hown' (by have := hbl.out; show w.heap.size < _; omega) _⟩
  case done =>
    rintro D xs W hD rfl ⟨HH, HBW⟩ hK
    rw [turns_len, stopsN_all, HN.out] at HH
    obtain ⟨v, hv, hrow⟩ := HH.out
    obtain ⟨c0, f0⟩ := hv
    have HF : Hid (Q (.returned v) (W.putObj D (.deferred none))) := by
      show Q _ _
      rw [← HQ.out]
      have g := Gw.put W (.deferred none) (B := w1.heap.size) (.inl hD)
      exact ⟨v, rfl, ints_own (own_gw hrow g (Nat.le_refl _)) (by rw [stopsL_len, HN.out]) (by have := HL.out; omega), below_gw HBW.out g (by omega) (Nat.le_refl _)⟩
    gi_wp2
    refine ⟨by simp, .inl ⟨_, _, rfl, run_takeDeferred hK, ?_⟩⟩
    refine ⟨v, ?_, HF.out⟩
    simp [results, Try.f16, go_sem]
  case stop =>
    rintro D c pre W _ _ h _
    exact h.elim
end Go.Proofs.Ytnpbkjmlmdpggaa.Wk
