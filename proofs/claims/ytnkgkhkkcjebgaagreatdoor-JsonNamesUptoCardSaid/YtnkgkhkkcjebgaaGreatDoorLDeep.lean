import Derived.Test.YtnkgkhkkcjebgaaGreatDoorJAwake2
import Derived.Test.YtnkgkhkkcjebgaaGreatDoorRo3
/- The walk of the law JsonDeep: it answers true. -/
set_option linter.unusedVariables false
set_option linter.unusedSimpArgs false
namespace Go.Proofs.YtnkgkhkkcjebgaaGreatDoor.Js
open Go.RowKit Lex

theorem pick_any (c n : Int) (w : World) (hc : i64B c) (hn0 : 0 < n) (hn1 : n ≤ 9223372036854775807) :
    Calls Tryz.prog 19 #[.int .i64 c, .int .i64 n] w (fun e w' => e = .returned (.int .i64 (Quo.pickS c n)) ∧ w = w') := by
  obtain ⟨hc0, hc1⟩ := hc
  by_cases hc : c < 0
  all_goals
    go_enter Tryz.func19, Tryz.ntmps19
    go_wp2
    go_ret
    refine ⟨Quo.ret_int ?_, rfl⟩
    unfold Quo.pickS
    first
      | (rw [if_pos hc, ← Int.neg_tmod, Int.tmod_eq_emod_of_nonneg (by omega)]; done)
      | rw [if_neg (by omega)]

/-- Values within one another, in a block. -/
def NestAt (w : World) (bv : Nat) (o : Bool) (k : Nat) : Prop := ∃ k' m e t an nn cn ai ni ci, w.heap[bv]? = some (.cells #[.int .i64 k', .int .i64 m, .int .i64 e, .string t, .slice an nn cn, .slice ai ni ci] 27 (0, 0)) ∧
  JA (fun b => b ≠ bv) w (.agg #[.int .i64 k', .int .i64 m, .int .i64 e, .string t, .slice an nn cn, .slice ai ni ci]) (nestJ o k)

theorem put6_self {w : World} {b : Nat} {T : TypeId} {d0 d1 d2 d3 d4 d5 : Value} (h : w.heap[b]? = some (.cells #[d0, d1, d2, d3, d4, d5] T (0, 0))) (c0 c1 c2 c3 c4 c5 : Value) : (put6 w b 0 c0 c1 c2 c3 c4 c5).heap[b]? = some (.cells #[c0, c1, c2, c3, c4, c5] T (0, 0)) := by
  unfold put6
  have e1 := heap_setCell_same w b 0 _ T c0 h
  have e2 := heap_setCell_same _ b (0 + 1) _ T c1 e1
  have e3 := heap_setCell_same _ b (0 + 2) _ T c2 e2
  have e4 := heap_setCell_same _ b (0 + 3) _ T c3 e3
  have e5 := heap_setCell_same _ b (0 + 4) _ T c4 e4
  have e6 := heap_setCell_same _ b (0 + 5) _ T c5 e5
  rw [e6]; rfl
/-- A value with one item. -/
theorem jat_one {S : Nat → Prop} {w : World} {d : Nat} {k : Int} {nv : Value} {ns : List (List UInt8)} {b : Nat} {T : TypeId} {f : Nat × Nat} {c0 c1 c2 c3 c4 c5 : Value} {j : J} (hk : i64B k) (hn : StrsAt S w nv ns) (hS : S b)
    (hb : w.heap[b]? = some (.cells #[c0, c1, c2, c3, c4, c5] T f)) (hJ : JAt S w d (.agg #[c0, c1, c2, c3, c4, c5]) j) : JAt S w (d + 1) (.agg #[.int .i64 k, .int .i64 0, .int .i64 0, .string ⟨#[]⟩, nv, .slice (some ⟨b, 0, none⟩) 1 1]) (.mk k 0 0 [] ns [j]) := by
  have z : i64B 0 := ⟨by decide, by decide⟩
  refine ⟨nv, some ⟨b, 0, none⟩, 1, rfl, hk, z, z, by unfold txtB; simp, hn, by simp, by simp, fun _ => ⟨b, 0, rfl, hS, Own.block_lt hb, fun i hi => ?_⟩⟩
  obtain rfl : i = 0 := by simp at hi; omega
  refine ⟨_, fun q c hc => ?_, hJ⟩
  rw [cell_of_row _ _ _ _ _ _ hb]
  simpa [aggC] using hc
theorem strs_nil {S : Nat → Prop} {w : World} : StrsAt S w (.slice none 0 0) [] := ⟨none, 0, rfl, by simp, by simp, fun x hx => by simp at hx, fun h => by simp at h⟩
theorem strs_one {S : Nat → Prop} {w : World} {b : Nat} {T : TypeId} {f : Nat × Nat} {t : List UInt8} (ht : txtB t) (hS : S b) (hb : w.heap[b]? = some (.cells #[.string ⟨t.toArray⟩] T f)) : StrsAt S w (.slice (some ⟨b, 0, none⟩) 1 1) [t] :=
  ⟨some ⟨b, 0, none⟩, 1, rfl, by simp, by simp, fun x hx => by simp at hx; subst hx; exact ht, fun _ => ⟨b, 0, rfl, hS, Own.block_lt hb, fun j hj => by
    obtain rfl : j = 0 := by simp at hj; omega
    rw [cell_of_row _ _ _ _ _ _ hb]; rfl⟩⟩
section
variable {wr : World} {bv k : Nat} {k' m e : Int} {t : ByteArray} {an ai : Option Addr} {nn cn ni ci : Nat}
theorem nest_arr (hblk : wr.heap[bv]? = some (.cells #[.int .i64 k', .int .i64 m, .int .i64 e, .string t, .slice an nn cn, .slice ai ni ci] 27 (0, 0)))
    (hJ : JA (fun b => b ≠ bv) wr (.agg #[.int .i64 k', .int .i64 m, .int .i64 e, .string t, .slice an nn cn, .slice ai ni ci]) (nestJ false k)) :
    NestAt ((put6 wr bv 0 (.int .i64 6) (.int .i64 0) (.int .i64 0) (.string ⟨#[]⟩) (.slice none 0 0) (.slice (some ⟨wr.heap.size, 0, none⟩) 1 1)).alloc (.cells #[.int .i64 k', .int .i64 m, .int .i64 e, .string t, .slice an nn cn, .slice ai ni ci] 27)) bv false (k + 1) := by
  obtain ⟨d, hJ⟩ := hJ
  have hl := Own.block_lt hblk
  have hsz := put6_size wr bv 0 (.int .i64 6) (.int .i64 0) (.int .i64 0) (.string ⟨#[]⟩) (.slice none 0 0) (.slice (some ⟨wr.heap.size, 0, none⟩) 1 1)
  have hs := put6_self hblk (.int .i64 6) (.int .i64 0) (.int .i64 0) (.string ⟨#[]⟩) (.slice none 0 0) (.slice (some ⟨wr.heap.size, 0, none⟩) 1 1)
  have ho := put6_block wr bv 0 (.int .i64 6) (.int .i64 0) (.int .i64 0) (.string ⟨#[]⟩) (.slice none 0 0) (.slice (some ⟨wr.heap.size, 0, none⟩) 1 1)
  generalize put6 wr bv 0 (.int .i64 6) (.int .i64 0) (.int .i64 0) (.string ⟨#[]⟩) (.slice none 0 0) (.slice (some ⟨wr.heap.size, 0, none⟩) 1 1) = W at *
  have hnew := heap_alloc_new W (.cells #[.int .i64 k', .int .i64 m, .int .i64 e, .string t, .slice an nn cn, .slice ai ni ci] 27)
  rw [hsz] at hnew
  refine ⟨6, 0, 0, ⟨#[]⟩, none, 0, 0, _, 1, 1, (Below.heap_alloc _ _ _ (by omega)).trans hs, d + 1, ?_⟩
  show JAt _ _ (d + 1) _ (.mk 6 0 0 [] [] [nestJ false k])
  exact jat_one ⟨by decide, by decide⟩ strs_nil (by omega) hnew (hJ.keep (fun _ h _ => h) (fun b hb hlt => (Below.heap_alloc _ _ _ (by omega)).trans (ho b hb)) (by simp; omega))
theorem nest_obj (hblk : wr.heap[bv]? = some (.cells #[.int .i64 k', .int .i64 m, .int .i64 e, .string t, .slice an nn cn, .slice ai ni ci] 27 (0, 0)))
    (hJ : JA (fun b => b ≠ bv) wr (.agg #[.int .i64 k', .int .i64 m, .int .i64 e, .string t, .slice an nn cn, .slice ai ni ci]) (nestJ true k)) :
    NestAt (((put6 wr bv 0 (.int .i64 7) (.int .i64 0) (.int .i64 0) (.string ⟨#[]⟩) (.slice (some ⟨wr.heap.size, 0, none⟩) 1 1) (.slice (some ⟨wr.heap.size + 1, 0, none⟩) 1 1)).alloc (.cells #[.string ⟨#[97]⟩] 9)).alloc (.cells #[.int .i64 k', .int .i64 m, .int .i64 e, .string t, .slice an nn cn, .slice ai ni ci] 27)) bv true (k + 1) := by
  obtain ⟨d, hJ⟩ := hJ
  have hl := Own.block_lt hblk
  have hsz := put6_size wr bv 0 (.int .i64 7) (.int .i64 0) (.int .i64 0) (.string ⟨#[]⟩) (.slice (some ⟨wr.heap.size, 0, none⟩) 1 1) (.slice (some ⟨wr.heap.size + 1, 0, none⟩) 1 1)
  have hs := put6_self hblk (.int .i64 7) (.int .i64 0) (.int .i64 0) (.string ⟨#[]⟩) (.slice (some ⟨wr.heap.size, 0, none⟩) 1 1) (.slice (some ⟨wr.heap.size + 1, 0, none⟩) 1 1)
  have ho := put6_block wr bv 0 (.int .i64 7) (.int .i64 0) (.int .i64 0) (.string ⟨#[]⟩) (.slice (some ⟨wr.heap.size, 0, none⟩) 1 1) (.slice (some ⟨wr.heap.size + 1, 0, none⟩) 1 1)
  generalize put6 wr bv 0 (.int .i64 7) (.int .i64 0) (.int .i64 0) (.string ⟨#[]⟩) (.slice (some ⟨wr.heap.size, 0, none⟩) 1 1) (.slice (some ⟨wr.heap.size + 1, 0, none⟩) 1 1) = W at *
  have hn1 := two_old W (.cells #[.string ⟨#[97]⟩] 9) (.cells #[.int .i64 k', .int .i64 m, .int .i64 e, .string t, .slice an nn cn, .slice ai ni ci] 27)
  have hn2 := two_new W (.cells #[.string ⟨#[97]⟩] 9) (.cells #[.int .i64 k', .int .i64 m, .int .i64 e, .string t, .slice an nn cn, .slice ai ni ci] 27)
  rw [hsz] at hn1 hn2
  have hold : ∀ b, b < wr.heap.size → ((W.alloc (.cells #[.string ⟨#[97]⟩] 9)).alloc (.cells #[.int .i64 k', .int .i64 m, .int .i64 e, .string t, .slice an nn cn, .slice ai ni ci] 27)).heap[b]? = W.heap[b]? := fun b hb => (Below.heap_alloc _ _ _ (by simp; omega)).trans (Below.heap_alloc _ _ _ (by omega))
  refine ⟨7, 0, 0, ⟨#[]⟩, _, 1, 1, _, 1, 1, (hold bv hl).trans hs, d + 1, ?_⟩
  show JAt _ _ (d + 1) _ (.mk 7 0 0 [] [[97]] [nestJ true k])
  exact jat_one ⟨by decide, by decide⟩ (strs_one (t := [97]) (by unfold txtB; simp) (by omega) hn1) (by omega) hn2 (hJ.keep (fun _ h _ => h) (fun b hb hlt => (hold b hlt).trans (ho b hb)) (by simp; omega))
end
theorem nest_leaf {w : World} {o : Bool} : NestAt (w.alloc (.cells #[.int .i64 4, .int .i64 1, .int .i64 0, .string ⟨#[]⟩, .slice none 0 0, .slice none 0 0] 27)) w.heap.size o 0 :=
  ⟨4, 1, 0, ⟨#[]⟩, none, 0, 0, none, 0, 0, heap_alloc_new w _, 1, leaf_jat ⟨by decide, by decide⟩ ⟨by decide, by decide⟩ ⟨by decide, by decide⟩ (by unfold txtB; simp)⟩
theorem nest_d (o : Bool) (k : Nat) (h : 16 ≤ k) : rightJ 1 (nestJ o k) = false ∧ printS (nestJ o k) = [] := by
  have : rightJ 1 (nestJ o k) = false := by rw [nest_right]; simp; omega
  exact ⟨this, by unfold printS; rw [this]; rfl⟩
theorem nest_s (o : Bool) (k : Nat) (h : k ≤ 15) : rightJ 1 (nestJ o k) = true ∧ printS (nestJ o k) = nestL o k := by
  have : rightJ 1 (nestJ o k) = true := by rw [nest_right]; simp; omega
  exact ⟨this, by unfold printS; rw [this]; exact nest_print o k⟩
theorem nest_lenb (o : Bool) (k : Nat) (h : k ≤ 29) : (nestL o k).length ≤ 1000 := by
  rw [nest_len]
  have hs : stepN o ≤ 5 := by unfold stepN; split <;> omega
  have : k * (stepN o + 1) ≤ 29 * 6 := Nat.mul_le_mul h (by omega)
  omega
theorem below_put6' {w w1 : World} {bres B : Nat} (h : Below B w w1) (hb : B ≤ bres) (c0 c1 c2 c3 c4 c5 : Value) : Below B w (put6 w1 bres 0 c0 c1 c2 c3 c4 c5) := by
  obtain ⟨p1, p2, p3⟩ := put6_os w1 bres 0 c0 c1 c2 c3 c4 c5
  exact ⟨p1.trans h.os, p2.trans h.tape, p3.trans h.output, by rw [put6_size]; exact h.size, fun k hk => (put6_block w1 bres 0 c0 c1 c2 c3 c4 c5 k (by omega)).trans (h.block k hk)⟩

set_option maxHeartbeats 4000000 in
set_option maxRecDepth 100000 in
theorem deep_walk (x : Int) (o : Bool) (w : World) (hT : Dec.Tab w) (hb0 : -9223372036854775808 ≤ x) (hb1 : x ≤ 9223372036854775807) : Calls Tryz.prog 9 #[.int .i64 x, .bool o] w (Ret (.bool true) w) := by
  have A1 := Lib.hid (awake_any w hT)
  have P1 := Lib.hid (fun w => (pick_any x 30 w ⟨hb0, hb1⟩ (by decide) (by decide)))
  have h0 := Quo.pickS_nonneg (c := x) (n := 30) (by decide)
  have h1 := Quo.pickS_lt (c := x) (n := 30) (by decide)
  obtain ⟨D, hD⟩ : ∃ D : Nat, Quo.pickS x 30 = D := ⟨(Quo.pickS x 30).toNat, by omega⟩
  rw [hD] at P1 h0 h1
  have hDl : D ≤ 29 := by omega
  clear hD h0 h1 hb0 hb1
  go_enter Tryz.func9, Tryz.ntmps9
  go_wp2_with (first
    | (go_at_call 11; (with_reducible refine (A1.out).mono ?_); rintro e1 w1 ⟨rfl, hbw1⟩)
    | (go_at_call 19; (with_reducible refine (P1.out _).mono ?_); rintro e2 w2 ⟨rfl, rfl⟩))
  cases o with
  | false =>
    go_loopw [7, 9] (fun s i wr => ∃ (k : Nat), k ≤ D ∧ i = .int .i64 ((k : Int) + 1) ∧ s = .string ⟨(nestL false k).toArray⟩ ∧ Below w.heap.size w wr ∧ w1.heap.size < wr.heap.size ∧ Hid (NestAt wr w1.heap.size false k)) (fun _ i _ => (D + 1) - (intOf i).toNat)
    case atStart => exact ⟨0, Nat.zero_le _, rfl, rfl, hbw1.alloc hbw1.size _, by simp, nest_leaf⟩
    case round =>
      obtain ⟨k, hk, rfl, rfl, hbr, hsz, hN⟩ := hrel
      by_cases hlt : k < D
      · obtain ⟨k', m, e, t, an, nn, cn, ai, ni, ci, hblk, hJ⟩ := hN.out
        obtain ⟨y0, y1, y2, y3, y4, y5⟩ := six_of hblk
        have f0 := free_of hblk 0
        have f1 := free_of hblk 1
        have f2 := free_of hblk 2
        have f3 := free_of hblk 3
        have f4 := free_of hblk 4
        have f5 := free_of hblk 5
        have HL := Lib.hid (nest_len false k)
        have i1 : (k : Int) + 1 < (D : Int) + 1 := by omega
        have i1' : (k : Int) + 1 < 1 + (D : Int) := by omega
        have hl : (nestL false k).length ≤ 1000 := by rw [HL.out]; simp [stepN]; omega
        generalize hq : nestL false k = q at *
        have HQ := Lib.hid hq
        clear hq
        go_wp2_with fail
        go_roundw
        case rel =>
          refine ⟨k + 1, by omega, by go_num, ?_, ?_, ?_, nest_arr hblk hJ⟩
          · rw [nestL, if_neg (by decide), HQ.out, show (⟨#[91]⟩ : ByteArray) = ⟨[91].toArray⟩ from rfl, show (⟨#[93]⟩ : ByteArray) = ⟨[93].toArray⟩ from rfl, bs_app, bs_app]
          · exact (below_put6' hbr hbw1.size _ _ _ _ _ _).alloc (by rw [put6_size]; exact hbr.size) _
          · show _ < ((put6 wr w1.heap.size 0 _ _ _ _ _ _).alloc _).heap.size
            simp [put6_size]; omega
        case measure => simp [intOf]; omega
      · have hkD : k = D := by omega
        subst hkD
        go_wp2_with fail
        obtain ⟨k', m, e, t, an, nn, cn, ai, ni, ci, hblk, hJ⟩ := hN.out
        have ys : Hid (∀ w', Below wr.heap.size wr w' → ∀ i, w'.cell? ⟨w1.heap.size, i, none⟩ = wr.cell? ⟨w1.heap.size, i, none⟩) := fun w' h i => h.cell (p := ⟨w1.heap.size, i, none⟩) hsz
        obtain ⟨y0, y1, y2, y3, y4, y5⟩ := six_of hblk
        have HJ : Hid (∀ w', Below wr.heap.size wr w' → JA Any w' (.agg #[.int .i64 k', .int .i64 m, .int .i64 e, .string t, .slice an nn cn, .slice ai ni ci]) (nestJ false k)) := fun w' h => (hJ.any).below h (Nat.le_refl _)
        have HTT : Hid (∀ w', Below wr.heap.size wr w' → Dec.Tab w') := fun w' h => hT.below (hbr.trans (h.mono hbr.size))
        have hl := nest_lenb false k hDl
        have RI := Lib.hid (fun w' (h : Below wr.heap.size wr w') => right_of Any _ (nestJ false k) w' (HJ.out w' h))
        have PR := Lib.hid (fun w' (h : Below wr.heap.size wr w') => print_of Any _ (nestJ false k) w' (HTT.out w' h) (HJ.out w' h) (by rw [nest_print]; omega))
        have HBR := Lib.hid hbr
        have s0 := hbr.size
        clear hJ hblk hbr hN hT
        by_cases hd : 16 ≤ k
        · have PX := Lib.hid (parse_x (nestL false k) 41 j0 (16 * stepN false) (deep_parse false k hd (by omega)) _ rfl (by unfold maxLen; omega) wr)
          obtain ⟨r1, r2⟩ := nest_d false k hd
          rw [r1] at RI
          rw [r2] at PR
          generalize nestL false k = q at *
          generalize nestJ false k = jj at *
          clear r1 r2
          (with_reducible refine (PX.out).mono ?_)
          rintro e3 w3 ⟨k2, m2, e2', t2, an2, nn2, cn2, ai2, ni2, ci2, rfl, hJ2, hb3⟩
          have s3 := hb3.size
          have HB3 : Hid (∀ o, Below wr.heap.size wr (w3.alloc o)) := fun o => hb3.alloc s3 o
          have z : ∀ o i, (w3.alloc o).cell? ⟨w1.heap.size, i, none⟩ = wr.cell? ⟨w1.heap.size, i, none⟩ := fun o i => ys.out _ (HB3.out o) i
          have i2 : (16 : Int) < (k : Int) + 1 := by omega
          have i2' : (16 : Int) < 1 + (k : Int) := by omega
          go_wp2_with (first
            | (go_at_call 14; (with_reducible refine (RI.out _ (HB3.out _)).mono ?_); rintro e4 w4 ⟨rfl, hb4⟩; have HB4 := (HB3.out _).trans (hb4.mono (by simp; omega)); have z4 := ys.out _ HB4)
            | (go_at_call 16; (with_reducible refine (PR.out _ HB4).mono ?_); rintro e5 w5 ⟨rfl, hb5⟩; have HB5 := HB4.trans (hb5.mono HB4.size)))
          go_ret
          exact ⟨rfl, HBR.out.trans (HB5.mono s0)⟩
        · have PX := Lib.hid (parse_x (nestL false k) 0 (nestJ false k) 0 (shallow_parse false k (by omega)) _ rfl (by unfold maxLen; omega) wr)
          obtain ⟨r1, r2⟩ := nest_s false k (by omega)
          have SA := Lib.hid (fun w' v2 (h : Below wr.heap.size wr w') (h2 : JA Any w' v2 (nestJ false k)) => same_of Any Any _ _ (nestJ false k) (nestJ false k) w' (HJ.out w' h) h2)
          rw [sameJ_refl] at SA
          rw [r1] at RI
          rw [r2] at PR
          generalize nestL false k = q at *
          generalize nestJ false k = jj at *
          clear r1 r2
          (with_reducible refine (PX.out).mono ?_)
          rintro e3 w3 ⟨k2, m2, e2', t2, an2, nn2, cn2, ai2, ni2, ci2, rfl, hJ2, hb3⟩
          have s3 := hb3.size
          have HB3 : Hid (∀ o, Below wr.heap.size wr (w3.alloc o)) := fun o => hb3.alloc s3 o
          have z : ∀ o i, (w3.alloc o).cell? ⟨w1.heap.size, i, none⟩ = wr.cell? ⟨w1.heap.size, i, none⟩ := fun o i => ys.out _ (HB3.out o) i
          have i2 : (k : Int) + 1 ≤ 16 := by omega
          have i2' : 1 + (k : Int) ≤ 16 := by omega
          have HJ2 : Hid (∀ w', Below w3.heap.size w3 w' → JA Any w' (.agg #[.int .i64 k2, .int .i64 m2, .int .i64 e2', .string t2, .slice an2 nn2 cn2, .slice ai2 ni2 ci2]) jj) := fun w' h => (hJ2.any).below h (Nat.le_refl _)
          have h33 : ∀ o w', Below (w3.alloc o).heap.size (w3.alloc o) w' → Below w3.heap.size w3 w' := fun o w' h => ((Below.refl _ _).alloc (Nat.le_refl _) _).trans (h.mono (by simp))
          have H33 := Lib.hid h33
          clear hJ2 h33
          go_wp2_with (first
            | (go_at_call 14; (with_reducible refine (RI.out _ (HB3.out _)).mono ?_); rintro e4 w4 ⟨rfl, hb4⟩; have HB4 := (HB3.out _).trans (hb4.mono (by simp; omega)); have z4 := ys.out _ HB4)
            | (go_at_call 16; (with_reducible refine (PR.out _ HB4).mono ?_); rintro e5 w5 ⟨rfl, hb5⟩; have HB5 := HB4.trans (hb5.mono HB4.size); have z5 := ys.out _ HB5; have hb45 := hb4.trans (hb5.mono hb4.size); obtain ⟨x0, x1, x2, x3, x4, x5⟩ := box_cells hb45)
            | (go_at_call 17; (with_reducible refine (SA.out _ _ HB5 (HJ2.out _ (H33.out _ _ hb45))).mono ?_); rintro e6 w6 ⟨rfl, hb6⟩; have HB6 := HB5.trans (hb6.mono HB5.size)))
          go_ret
          exact ⟨rfl, HBR.out.trans (HB6.mono s0)⟩
  | true =>
    go_loopw [7, 9] (fun s i wr => ∃ (k : Nat), k ≤ D ∧ i = .int .i64 ((k : Int) + 1) ∧ s = .string ⟨(nestL true k).toArray⟩ ∧ Below w.heap.size w wr ∧ w1.heap.size < wr.heap.size ∧ Hid (NestAt wr w1.heap.size true k)) (fun _ i _ => (D + 1) - (intOf i).toNat)
    case atStart => exact ⟨0, Nat.zero_le _, rfl, rfl, hbw1.alloc hbw1.size _, by simp, nest_leaf⟩
    case round =>
      obtain ⟨k, hk, rfl, rfl, hbr, hsz, hN⟩ := hrel
      by_cases hlt : k < D
      · obtain ⟨k', m, e, t, an, nn, cn, ai, ni, ci, hblk, hJ⟩ := hN.out
        obtain ⟨y0, y1, y2, y3, y4, y5⟩ := six_of hblk
        have f0 := free_of hblk 0
        have f1 := free_of hblk 1
        have f2 := free_of hblk 2
        have f3 := free_of hblk 3
        have f4 := free_of hblk 4
        have f5 := free_of hblk 5
        have HL := Lib.hid (nest_len true k)
        have i1 : (k : Int) + 1 < (D : Int) + 1 := by omega
        have i1' : (k : Int) + 1 < 1 + (D : Int) := by omega
        have hl : (nestL true k).length ≤ 1000 := by rw [HL.out]; simp [stepN]; omega
        generalize hq : nestL true k = q at *
        have HQ := Lib.hid hq
        clear hq
        go_wp2_with fail
        go_roundw
        case rel =>
          refine ⟨k + 1, by omega, by go_num, ?_, ?_, ?_, nest_obj hblk hJ⟩
          · rw [nestL, if_pos rfl, HQ.out, show (⟨#[123, 34, 97, 34, 58]⟩ : ByteArray) = ⟨[123, 34, 97, 34, 58].toArray⟩ from rfl, show (⟨#[125]⟩ : ByteArray) = ⟨[125].toArray⟩ from rfl, bs_app, bs_app]
          · exact ((below_put6' hbr hbw1.size _ _ _ _ _ _).alloc (by rw [put6_size]; exact hbr.size) _).alloc (by have := hbr.size; simp [put6_size]; omega) _
          · show _ < (((put6 wr w1.heap.size 0 _ _ _ _ _ _).alloc _).alloc _).heap.size
            simp [put6_size]; omega
        case measure => simp [intOf]; omega
      · have hkD : k = D := by omega
        subst hkD
        go_wp2_with fail
        obtain ⟨k', m, e, t, an, nn, cn, ai, ni, ci, hblk, hJ⟩ := hN.out
        have ys : Hid (∀ w', Below wr.heap.size wr w' → ∀ i, w'.cell? ⟨w1.heap.size, i, none⟩ = wr.cell? ⟨w1.heap.size, i, none⟩) := fun w' h i => h.cell (p := ⟨w1.heap.size, i, none⟩) hsz
        obtain ⟨y0, y1, y2, y3, y4, y5⟩ := six_of hblk
        have HJ : Hid (∀ w', Below wr.heap.size wr w' → JA Any w' (.agg #[.int .i64 k', .int .i64 m, .int .i64 e, .string t, .slice an nn cn, .slice ai ni ci]) (nestJ true k)) := fun w' h => (hJ.any).below h (Nat.le_refl _)
        have HTT : Hid (∀ w', Below wr.heap.size wr w' → Dec.Tab w') := fun w' h => hT.below (hbr.trans (h.mono hbr.size))
        have hl := nest_lenb true k hDl
        have RI := Lib.hid (fun w' (h : Below wr.heap.size wr w') => right_of Any _ (nestJ true k) w' (HJ.out w' h))
        have PR := Lib.hid (fun w' (h : Below wr.heap.size wr w') => print_of Any _ (nestJ true k) w' (HTT.out w' h) (HJ.out w' h) (by rw [nest_print]; omega))
        have HBR := Lib.hid hbr
        have s0 := hbr.size
        clear hJ hblk hbr hN hT
        by_cases hd : 16 ≤ k
        · have PX := Lib.hid (parse_x (nestL true k) 41 j0 (16 * stepN true) (deep_parse true k hd (by omega)) _ rfl (by unfold maxLen; omega) wr)
          obtain ⟨r1, r2⟩ := nest_d true k hd
          rw [r1] at RI
          rw [r2] at PR
          generalize nestL true k = q at *
          generalize nestJ true k = jj at *
          clear r1 r2
          (with_reducible refine (PX.out).mono ?_)
          rintro e3 w3 ⟨k2, m2, e2', t2, an2, nn2, cn2, ai2, ni2, ci2, rfl, hJ2, hb3⟩
          have s3 := hb3.size
          have HB3 : Hid (∀ o, Below wr.heap.size wr (w3.alloc o)) := fun o => hb3.alloc s3 o
          have z : ∀ o i, (w3.alloc o).cell? ⟨w1.heap.size, i, none⟩ = wr.cell? ⟨w1.heap.size, i, none⟩ := fun o i => ys.out _ (HB3.out o) i
          have i2 : (16 : Int) < (k : Int) + 1 := by omega
          have i2' : (16 : Int) < 1 + (k : Int) := by omega
          go_wp2_with (first
            | (go_at_call 14; (with_reducible refine (RI.out _ (HB3.out _)).mono ?_); rintro e4 w4 ⟨rfl, hb4⟩; have HB4 := (HB3.out _).trans (hb4.mono (by simp; omega)); have z4 := ys.out _ HB4)
            | (go_at_call 16; (with_reducible refine (PR.out _ HB4).mono ?_); rintro e5 w5 ⟨rfl, hb5⟩; have HB5 := HB4.trans (hb5.mono HB4.size)))
          go_ret
          exact ⟨rfl, HBR.out.trans (HB5.mono s0)⟩
        · have PX := Lib.hid (parse_x (nestL true k) 0 (nestJ true k) 0 (shallow_parse true k (by omega)) _ rfl (by unfold maxLen; omega) wr)
          obtain ⟨r1, r2⟩ := nest_s true k (by omega)
          have SA := Lib.hid (fun w' v2 (h : Below wr.heap.size wr w') (h2 : JA Any w' v2 (nestJ true k)) => same_of Any Any _ _ (nestJ true k) (nestJ true k) w' (HJ.out w' h) h2)
          rw [sameJ_refl] at SA
          rw [r1] at RI
          rw [r2] at PR
          generalize nestL true k = q at *
          generalize nestJ true k = jj at *
          clear r1 r2
          (with_reducible refine (PX.out).mono ?_)
          rintro e3 w3 ⟨k2, m2, e2', t2, an2, nn2, cn2, ai2, ni2, ci2, rfl, hJ2, hb3⟩
          have s3 := hb3.size
          have HB3 : Hid (∀ o, Below wr.heap.size wr (w3.alloc o)) := fun o => hb3.alloc s3 o
          have z : ∀ o i, (w3.alloc o).cell? ⟨w1.heap.size, i, none⟩ = wr.cell? ⟨w1.heap.size, i, none⟩ := fun o i => ys.out _ (HB3.out o) i
          have i2 : (k : Int) + 1 ≤ 16 := by omega
          have i2' : 1 + (k : Int) ≤ 16 := by omega
          have HJ2 : Hid (∀ w', Below w3.heap.size w3 w' → JA Any w' (.agg #[.int .i64 k2, .int .i64 m2, .int .i64 e2', .string t2, .slice an2 nn2 cn2, .slice ai2 ni2 ci2]) jj) := fun w' h => (hJ2.any).below h (Nat.le_refl _)
          have h33 : ∀ o w', Below (w3.alloc o).heap.size (w3.alloc o) w' → Below w3.heap.size w3 w' := fun o w' h => ((Below.refl _ _).alloc (Nat.le_refl _) _).trans (h.mono (by simp))
          have H33 := Lib.hid h33
          clear hJ2 h33
          go_wp2_with (first
            | (go_at_call 14; (with_reducible refine (RI.out _ (HB3.out _)).mono ?_); rintro e4 w4 ⟨rfl, hb4⟩; have HB4 := (HB3.out _).trans (hb4.mono (by simp; omega)); have z4 := ys.out _ HB4)
            | (go_at_call 16; (with_reducible refine (PR.out _ HB4).mono ?_); rintro e5 w5 ⟨rfl, hb5⟩; have HB5 := HB4.trans (hb5.mono HB4.size); have z5 := ys.out _ HB5; have hb45 := hb4.trans (hb5.mono hb4.size); obtain ⟨x0, x1, x2, x3, x4, x5⟩ := box_cells hb45)
            | (go_at_call 17; (with_reducible refine (SA.out _ _ HB5 (HJ2.out _ (H33.out _ _ hb45))).mono ?_); rintro e6 w6 ⟨rfl, hb6⟩; have HB6 := HB5.trans (hb6.mono HB5.size)))
          go_ret
          exact ⟨rfl, HBR.out.trans (HB6.mono s0)⟩
end Go.Proofs.YtnkgkhkkcjebgaaGreatDoor.Js
