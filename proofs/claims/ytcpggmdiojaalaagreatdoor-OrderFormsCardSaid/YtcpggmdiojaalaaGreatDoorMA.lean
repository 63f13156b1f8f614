import Derived.Test.YtcpggmdiojaalaaGreatDoorMC
import Derived.Test.YtcpggmdiojaalaaGreatDoorWr3
import Derived.Test.YtcpggmdiojaalaaGreatDoorAwake
import Derived.Test.YtcpggmdiojaalaaGreatDoorMB
/- The contract of awake: chapter 4's examples come out true. -/
set_option linter.unusedVariables false
set_option linter.unusedSimpArgs false
namespace Go.Proofs.YtcpggmdiojaalaaGreatDoor.Js
open Go.RowKit Lex

theorem parse_x (s : List UInt8) (E : Int) (j : J) (n : Nat) (hP : parseS s = (E, j, n)) (b : ByteArray) (hb : (⟨s.toArray⟩ : ByteArray) = b) (hs : s.length ≤ maxLen) (w : World) : Calls Tryz.prog 27 #[.string b] w fun e w' =>
    ∃ k m e1 t an nn cn ai ni ci, e = .returned (.tuple #[.agg #[.int .i64 k, .int .i64 m, .int .i64 e1, .string t, .slice an nn cn, .slice ai ni ci], .int .i64 E, .int .i64 n]) ∧
      JA (fun b => w.heap.size ≤ b) w' (.agg #[.int .i64 k, .int .i64 m, .int .i64 e1, .string t, .slice an nn cn, .slice ai ni ci]) j ∧ Below w.heap.size w w' := by
  subst hb
  have := parse_any s w hs
  rw [hP] at this
  exact this

theorem dec_parse : Dec.parseS [49, 46, 53, 48] = (15, -1, true) := by
  have h1 : Dec.splitS [49, 46, 53, 48] = some (false, [49], [53, 48], 0) := by decide +kernel
  unfold Dec.parseS
  rw [h1, if_neg (by decide)]
  have h2 : Dec.valS (some (false, [49], [53, 48], 0)) = Dec.mk (15 * 10) (-2) := rfl
  rw [h2, Dec.mk_mul]
  exact Dec.mk_right 15 (-1) (by decide +kernel)
theorem isW_150 : IsW [49, 46, 53, 48] ⟨3, [49, 46, 53, 48], 15, -1, 0⟩ := by
  refine ⟨by simp, by decide, fun rest hr => ?_⟩
  have ht : ([49, 46, 53, 48] ++ rest).takeWhile numB = [49, 46, 53, 48] := takeWhile_all (by decide) (fun c r e => (hr c r e).1)
  have hf : firstL ([49, 46, 53, 48] ++ rest) = numberL ([49, 46, 53, 48] ++ rest) := by simp [firstL, signB, digB]
  rw [hf, numberL, spanN, ht, dec_parse, if_pos rfl]
def exJ : J := .mk 7 0 0 [] [[97]] [.mk 6 0 0 [] [] [.mk 4 15 (-1) [] [] [], .mk 1 0 0 [] [] []]]
theorem ex1_scan : scanS [32, 123, 34, 97, 34, 32, 58, 32, 91, 49, 46, 53, 48, 44, 32, 110, 117, 108, 108, 93, 125, 32] = .inr [⟨1, [123], 0, 0, 1⟩, ⟨2, [97], 0, 0, 2⟩, ⟨1, [58], 0, 0, 6⟩, ⟨1, [91], 0, 0, 8⟩, ⟨3, [49, 46, 53, 48], 15, -1, 9⟩, ⟨1, [44], 0, 0, 13⟩, ⟨4, nullL, 0, 0, 15⟩, ⟨1, [93], 0, 0, 19⟩, ⟨1, [125], 0, 0, 20⟩, ⟨5, [], 0, 0, 22⟩] := by
  unfold scanS
  rw [if_neg (by decide)]
  rw [show ([32, 123, 34, 97, 34, 32, 58, 32, 91, 49, 46, 53, 48, 44, 32, 110, 117, 108, 108, 93, 125, 32] : List UInt8) = 32 :: (123 :: ([34, 97, 34] ++ (32 :: (58 :: (32 :: (91 :: ([49, 46, 53, 48] ++ (44 :: (32 :: (nullL ++ (93 :: (125 :: (32 :: []))))))))))))) from rfl]
  rw [scanL_blank blank32, scan_sign (by decide), scan_word isW_a (by intro c r h; cases h; decide), scanL_blank blank32, scan_sign (by decide), scanL_blank blank32, scan_sign (by decide), scan_word isW_150 (by intro c r h; cases h; decide), scan_sign (by decide),
    scanL_blank blank32, scan_word (isW_three (w := nullL) (by decide)) (by intro c r h; cases h; decide), scan_sign (by decide), scan_sign (by decide), scanL_blank blank32, scanL_nil]
  rfl
theorem ex1 : parseS [32, 123, 34, 97, 34, 32, 58, 32, 91, 49, 46, 53, 48, 44, 32, 110, 117, 108, 108, 93, 125, 32] = (0, exJ, 0) := by
  unfold parseS
  rw [ex1_scan]
  rfl
theorem ex2_scan : scanS [123, 34, 97, 34, 58, 49, 44, 34, 97, 34] = .inr [⟨1, [123], 0, 0, 0⟩, ⟨2, [97], 0, 0, 1⟩, ⟨1, [58], 0, 0, 4⟩, ⟨3, [49], 1, 0, 5⟩, ⟨1, [44], 0, 0, 6⟩, ⟨2, [97], 0, 0, 7⟩, ⟨5, [], 0, 0, 10⟩] := by
  unfold scanS
  rw [if_neg (by decide)]
  rw [show ([123, 34, 97, 34, 58, 49, 44, 34, 97, 34] : List UInt8) = 123 :: ([34, 97, 34] ++ (58 :: ([49] ++ (44 :: ([34, 97, 34] ++ []))))) from rfl]
  rw [scan_sign (by decide), scan_word isW_a (by intro c r h; cases h; decide), scan_sign (by decide), scan_word isW_one (by intro c r h; cases h; decide), scan_sign (by decide), scan_word isW_a fin_nil, scanL_nil]
  rfl
theorem ex2 : parseS [123, 34, 97, 34, 58, 49, 44, 34, 97, 34] = (42, j0, 7) := by
  unfold parseS
  rw [ex2_scan]
  rfl
theorem whole_a : Quo.wholeB [97] = true := by
  rw [show ([97] : List UInt8) = Quo.flat [97] by decide +kernel]
  exact Quo.wholeB_flat' (by intro r hr; unfold Quo.vr; simp at hr; omega)
theorem quote_a : Quo.quoteL [97] = [34, 97, 34] := by
  unfold Quo.quoteL
  rw [show ([97] : List UInt8) = Quo.flat [97] by decide +kernel, Quo.qBody_flat' (by intro r hr; unfold Quo.vr; simp at hr; omega)]
  decide +kernel
theorem print_15 : Dec.printS 15 (-1) = [49, 46, 53] := by
  have h : Lib.decDigits 15 = [49, 53] := Lib.decDigits_two (by decide) (by decide)
  have hf : Dec.figsL 15 (-1) = [49, 53] := by
    unfold Dec.figsL
    rw [show (15 : Int).natAbs = 15 from rfl, h]
    rfl
  unfold Dec.printS
  rw [if_pos (by decide +kernel), if_neg (by decide), hf]
  rfl
theorem ex_right : rightJ 1 exJ = true := by
  have h1 : Dec.rightB 15 (-1) = true := by decide +kernel
  simp [exJ, rightJ, rightL, bareB, formB, namesB, whole_a, h1]
theorem ex_printJ : printJ exJ = [123, 34, 97, 34, 58, 91, 49, 46, 53, 44, 110, 117, 108, 108, 93, 125] := by
  simp [exJ, printJ, printL, quote_a, print_15, nullL]
theorem ex_print : printS exJ = [123, 34, 97, 34, 58, 91, 49, 46, 53, 44, 110, 117, 108, 108, 93, 125] := by
  unfold printS
  rw [ex_right, if_pos rfl, ex_printJ]
theorem ex_same : sameJ exJ exJ = true ∧ sameJ exJ j0 = false := ⟨sameJ_refl _, rfl⟩
end Go.Proofs.YtcpggmdiojaalaaGreatDoor.Js

/- The contract of awake. -/
set_option linter.unusedVariables false
set_option linter.unusedSimpArgs false
namespace Go.Proofs.YtcpggmdiojaalaaGreatDoor.Js
open Go.RowKit Lex

end Go.Proofs.YtcpggmdiojaalaaGreatDoor.Js

/- The walk of the law JsonDeep: it answers true. -/
set_option linter.unusedVariables false
set_option linter.unusedSimpArgs false
namespace Go.Proofs.YtcpggmdiojaalaaGreatDoor.Js
open Go.RowKit Lex

/-- Values within one another, in a block. -/
def NestAt (w : World) (bv : Nat) (o : Bool) (k : Nat) : Prop := ∃ k' m e t an nn cn ai ni ci, w.heap[bv]? = some (.cells #[.int .i64 k', .int .i64 m, .int .i64 e, .string t, .slice an nn cn, .slice ai ni ci] 45 (0, 0)) ∧
  JA (fun b => b ≠ bv) w (.agg #[.int .i64 k', .int .i64 m, .int .i64 e, .string t, .slice an nn cn, .slice ai ni ci]) (nestJ o k)

theorem put6_self {w : World} {b : Nat} {T : TypeId} {d0 d1 d2 d3 d4 d5 : Value} (h : w.heap[b]? = some (.cells #[d0, d1, d2, d3, d4, d5] T (0, 0))) (c0 c1 c2 c3 c4 c5 : Value) : (put6 w b 0 c0 c1 c2 c3 c4 c5).heap[b]? = some (.cells #[c0, c1, c2, c3, c4, c5] T (0, 0)) := by
  unfold put6
  have e1 := heap_setCell_same w b 0 _ T c0 h
  have e2 := heap_setCell_same _ b (0 + 1) _ T c1 e1
  have e3 := heap_setCell_same _ b (0 + 2) _ T c2 e2
  have e4 := heap_setCell_same _ b (0 + 3) _ T c3 e3
  have e5 := heap_setCell_same _ b (0 + 4) _ T c4 e4
  have e6 := heap_setCell_same _ b (0 + 5) _ T c5 e5
  rw [e6]; rfl
/-- A value with one item. -/
theorem jat_one {S : Nat → Prop} {w : World} {d : Nat} {k : Int} {nv : Value} {ns : List (List UInt8)} {b : Nat} {T : TypeId} {f : Nat × Nat} {c0 c1 c2 c3 c4 c5 : Value} {j : J} (hk : i64B k) (hn : StrsAt S w nv ns) (hS : S b)
    (hb : w.heap[b]? = some (.cells #[c0, c1, c2, c3, c4, c5] T f)) (hJ : JAt S w d (.agg #[c0, c1, c2, c3, c4, c5]) j) : JAt S w (d + 1) (.agg #[.int .i64 k, .int .i64 0, .int .i64 0, .string ⟨#[]⟩, nv, .slice (some ⟨b, 0, none⟩) 1 1]) (.mk k 0 0 [] ns [j]) := by
  have z : i64B 0 := ⟨by decide, by decide⟩
  refine ⟨nv, some ⟨b, 0, none⟩, 1, rfl, hk, z, z, by unfold txtB; simp, hn, by simp, by simp, fun _ => ⟨b, 0, rfl, hS, Own.block_lt hb, fun i hi => ?_⟩⟩
  obtain rfl : i = 0 := by simp at hi; omega
  refine ⟨_, fun q c hc => ?_, hJ⟩
  rw [cell_of_row _ _ _ _ _ _ hb]
  simpa [aggC] using hc
theorem strs_nil {S : Nat → Prop} {w : World} : StrsAt S w (.slice none 0 0) [] := ⟨none, 0, rfl, by simp, by simp, fun x hx => by simp at hx, fun h => by simp at h⟩
theorem strs_one {S : Nat → Prop} {w : World} {b : Nat} {T : TypeId} {f : Nat × Nat} {t : List UInt8} (ht : txtB t) (hS : S b) (hb : w.heap[b]? = some (.cells #[.string ⟨t.toArray⟩] T f)) : StrsAt S w (.slice (some ⟨b, 0, none⟩) 1 1) [t] :=
  ⟨some ⟨b, 0, none⟩, 1, rfl, by simp, by simp, fun x hx => by simp at hx; subst hx; exact ht, fun _ => ⟨b, 0, rfl, hS, Own.block_lt hb, fun j hj => by
    obtain rfl : j = 0 := by simp at hj; omega
    rw [cell_of_row _ _ _ _ _ _ hb]; rfl⟩⟩
section
variable {wr : World} {bv k : Nat} {k' m e : Int} {t : ByteArray} {an ai : Option Addr} {nn cn ni ci : Nat}
theorem nest_arr (hblk : wr.heap[bv]? = some (.cells #[.int .i64 k', .int .i64 m, .int .i64 e, .string t, .slice an nn cn, .slice ai ni ci] 45 (0, 0)))
    (hJ : JA (fun b => b ≠ bv) wr (.agg #[.int .i64 k', .int .i64 m, .int .i64 e, .string t, .slice an nn cn, .slice ai ni ci]) (nestJ false k)) :
    NestAt ((put6 wr bv 0 (.int .i64 6) (.int .i64 0) (.int .i64 0) (.string ⟨#[]⟩) (.slice none 0 0) (.slice (some ⟨wr.heap.size, 0, none⟩) 1 1)).alloc (.cells #[.int .i64 k', .int .i64 m, .int .i64 e, .string t, .slice an nn cn, .slice ai ni ci] 45)) bv false (k + 1) := by
  obtain ⟨d, hJ⟩ := hJ
  have hl := Own.block_lt hblk
  have hsz := put6_size wr bv 0 (.int .i64 6) (.int .i64 0) (.int .i64 0) (.string ⟨#[]⟩) (.slice none 0 0) (.slice (some ⟨wr.heap.size, 0, none⟩) 1 1)
  have hs := put6_self hblk (.int .i64 6) (.int .i64 0) (.int .i64 0) (.string ⟨#[]⟩) (.slice none 0 0) (.slice (some ⟨wr.heap.size, 0, none⟩) 1 1)
  have ho := put6_block wr bv 0 (.int .i64 6) (.int .i64 0) (.int .i64 0) (.string ⟨#[]⟩) (.slice none 0 0) (.slice (some ⟨wr.heap.size, 0, none⟩) 1 1)
  generalize put6 wr bv 0 (.int .i64 6) (.int .i64 0) (.int .i64 0) (.string ⟨#[]⟩) (.slice none 0 0) (.slice (some ⟨wr.heap.size, 0, none⟩) 1 1) = W at *
  have hnew := heap_alloc_new W (.cells #[.int .i64 k', .int .i64 m, .int .i64 e, .string t, .slice an nn cn, .slice ai ni ci] 45)
  rw [hsz] at hnew
  refine ⟨6, 0, 0, ⟨#[]⟩, none, 0, 0, _, 1, 1, (Below.heap_alloc _ _ _ (by omega)).trans hs, d + 1, ?_⟩
  show JAt _ _ (d + 1) _ (.mk 6 0 0 [] [] [nestJ false k])
  exact jat_one ⟨by decide, by decide⟩ strs_nil (by omega) hnew (hJ.keep (fun _ h _ => h) (fun b hb hlt => (Below.heap_alloc _ _ _ (by omega)).trans (ho b hb)) (by simp; omega))
theorem nest_obj (hblk : wr.heap[bv]? = some (.cells #[.int .i64 k', .int .i64 m, .int .i64 e, .string t, .slice an nn cn, .slice ai ni ci] 45 (0, 0)))
    (hJ : JA (fun b => b ≠ bv) wr (.agg #[.int .i64 k', .int .i64 m, .int .i64 e, .string t, .slice an nn cn, .slice ai ni ci]) (nestJ true k)) :
    NestAt (((put6 wr bv 0 (.int .i64 7) (.int .i64 0) (.int .i64 0) (.string ⟨#[]⟩) (.slice (some ⟨wr.heap.size, 0, none⟩) 1 1) (.slice (some ⟨wr.heap.size + 1, 0, none⟩) 1 1)).alloc (.cells #[.string ⟨#[97]⟩] 9)).alloc (.cells #[.int .i64 k', .int .i64 m, .int .i64 e, .string t, .slice an nn cn, .slice ai ni ci] 45)) bv true (k + 1) := by
  obtain ⟨d, hJ⟩ := hJ
  have hl := Own.block_lt hblk
  have hsz := put6_size wr bv 0 (.int .i64 7) (.int .i64 0) (.int .i64 0) (.string ⟨#[]⟩) (.slice (some ⟨wr.heap.size, 0, none⟩) 1 1) (.slice (some ⟨wr.heap.size + 1, 0, none⟩) 1 1)
  have hs := put6_self hblk (.int .i64 7) (.int .i64 0) (.int .i64 0) (.string ⟨#[]⟩) (.slice (some ⟨wr.heap.size, 0, none⟩) 1 1) (.slice (some ⟨wr.heap.size + 1, 0, none⟩) 1 1)
  have ho := put6_block wr bv 0 (.int .i64 7) (.int .i64 0) (.int .i64 0) (.string ⟨#[]⟩) (.slice (some ⟨wr.heap.size, 0, none⟩) 1 1) (.slice (some ⟨wr.heap.size + 1, 0, none⟩) 1 1)
  generalize put6 wr bv 0 (.int .i64 7) (.int .i64 0) (.int .i64 0) (.string ⟨#[]⟩) (.slice (some ⟨wr.heap.size, 0, none⟩) 1 1) (.slice (some ⟨wr.heap.size + 1, 0, none⟩) 1 1) = W at *
  have hn1 := two_old W (.cells #[.string ⟨#[97]⟩] 9) (.cells #[.int .i64 k', .int .i64 m, .int .i64 e, .string t, .slice an nn cn, .slice ai ni ci] 45)
  have hn2 := two_new W (.cells #[.string ⟨#[97]⟩] 9) (.cells #[.int .i64 k', .int .i64 m, .int .i64 e, .string t, .slice an nn cn, .slice ai ni ci] 45)
  rw [hsz] at hn1 hn2
  have hold : ∀ b, b < wr.heap.size → ((W.alloc (.cells #[.string ⟨#[97]⟩] 9)).alloc (.cells #[.int .i64 k', .int .i64 m, .int .i64 e, .string t, .slice an nn cn, .slice ai ni ci] 45)).heap[b]? = W.heap[b]? := fun b hb => (Below.heap_alloc _ _ _ (by simp; omega)).trans (Below.heap_alloc _ _ _ (by omega))
  refine ⟨7, 0, 0, ⟨#[]⟩, _, 1, 1, _, 1, 1, (hold bv hl).trans hs, d + 1, ?_⟩
  show JAt _ _ (d + 1) _ (.mk 7 0 0 [] [[97]] [nestJ true k])
  exact jat_one ⟨by decide, by decide⟩ (strs_one (t := [97]) (by unfold txtB; simp) (by omega) hn1) (by omega) hn2 (hJ.keep (fun _ h _ => h) (fun b hb hlt => (hold b hlt).trans (ho b hb)) (by simp; omega))
end
theorem nest_leaf {w : World} {o : Bool} : NestAt (w.alloc (.cells #[.int .i64 4, .int .i64 1, .int .i64 0, .string ⟨#[]⟩, .slice none 0 0, .slice none 0 0] 45)) w.heap.size o 0 :=
  ⟨4, 1, 0, ⟨#[]⟩, none, 0, 0, none, 0, 0, heap_alloc_new w _, 1, leaf_jat ⟨by decide, by decide⟩ ⟨by decide, by decide⟩ ⟨by decide, by decide⟩ (by unfold txtB; simp)⟩
theorem nest_d (o : Bool) (k : Nat) (h : 16 ≤ k) : rightJ 1 (nestJ o k) = false ∧ printS (nestJ o k) = [] := by
  have : rightJ 1 (nestJ o k) = false := by rw [nest_right]; simp; omega
  exact ⟨this, by unfold printS; rw [this]; rfl⟩
theorem nest_s (o : Bool) (k : Nat) (h : k ≤ 15) : rightJ 1 (nestJ o k) = true ∧ printS (nestJ o k) = nestL o k := by
  have : rightJ 1 (nestJ o k) = true := by rw [nest_right]; simp; omega
  exact ⟨this, by unfold printS; rw [this]; exact nest_print o k⟩
theorem nest_lenb (o : Bool) (k : Nat) (h : k ≤ 29) : (nestL o k).length ≤ 1000 := by
  rw [nest_len]
  have hs : stepN o ≤ 5 := by unfold stepN; split <;> omega
  have : k * (stepN o + 1) ≤ 29 * 6 := Nat.mul_le_mul h (by omega)
  omega
theorem below_put6' {w w1 : World} {bres B : Nat} (h : Below B w w1) (hb : B ≤ bres) (c0 c1 c2 c3 c4 c5 : Value) : Below B w (put6 w1 bres 0 c0 c1 c2 c3 c4 c5) := by
  obtain ⟨p1, p2, p3⟩ := put6_os w1 bres 0 c0 c1 c2 c3 c4 c5
  exact ⟨p1.trans h.os, p2.trans h.tape, p3.trans h.output, by rw [put6_size]; exact h.size, fun k hk => (put6_block w1 bres 0 c0 c1 c2 c3 c4 c5 k (by omega)).trans (h.block k hk)⟩

end Go.Proofs.YtcpggmdiojaalaaGreatDoor.Js
