import Derived.Test.YtnkgkhkkcjebgaaGreatDoorLBack4
import Derived.Deep.RegionHeld3
/- The walk of the law JsonNames: it answers true. -/
set_option linter.unusedVariables false
set_option linter.unusedSimpArgs false
namespace Go.Proofs.YtnkgkhkkcjebgaaGreatDoor.Js
open Go.RowKit Lex
open Quo (textR)

theorem sameJ_comm (a b : J) : sameJ a b = sameJ b a := by
  rw [Bool.eq_iff_iff, sameJ_iff, sameJ_iff]; exact eq_comm
/-- Two names, two items. -/
def obj2 (a b : List UInt8) (v w : J) : J := .mk 7 0 0 [] [a, b] [v, w]
def arr2 (v w : J) : J := .mk 6 0 0 [] [] [v, w]
section
variable {a b : List UInt8} {v w : J}
theorem obj2_right (ha : Quo.wholeB a = true) (hb : Quo.wholeB b = true) (hv : rightJ 2 v = true) (hw : rightJ 2 w = true) : rightJ 1 (obj2 a b v w) = (a != b) := by
  unfold obj2
  rw [rightJ]
  by_cases h : a = b
  · subst h
    simp [bareB, formB, namesB, rightL, ha, hb, hv, hw]
  · have h' : ¬ b = a := fun e => h e.symm
    simp [bareB, formB, namesB, rightL, ha, hb, hv, hw, h, h']
theorem obj2_same : sameJ (obj2 a b v w) (obj2 b a w v) = (a == b && sameJ v w) := by
  rw [Bool.eq_iff_iff, sameJ_iff, Bool.and_eq_true, sameJ_iff]
  unfold obj2
  constructor
  · intro h
    simp only [J.mk.injEq, List.cons.injEq, and_true, true_and] at h
    obtain ⟨⟨h1, _⟩, h2, _⟩ := h
    exact ⟨by simpa using h1, h2⟩
  · rintro ⟨h1, rfl⟩
    have : a = b := by simpa using h1
    subst this
    rfl
theorem arr2_right (hv : rightJ 2 v = true) (hw : rightJ 2 w = true) : rightJ 1 (arr2 v w) = true := by
  unfold arr2
  rw [rightJ]
  simp [bareB, formB, rightL, hv, hw]
theorem arr2_same : sameJ (arr2 v w) (arr2 w v) = sameJ v w := by
  rw [Bool.eq_iff_iff, sameJ_iff, sameJ_iff]
  unfold arr2
  constructor
  · intro h
    simp only [J.mk.injEq, List.cons.injEq, and_true, true_and] at h
    exact h.1
  · rintro rfl; rfl
theorem arr2_len (hv : (printJ v).length ≤ 209715200) (hw : (printJ w).length ≤ 209715200) : (printJ (arr2 v w)).length ≤ 500000000 := by
  unfold arr2
  have h := printL_len false [v, w] true [] (by simp)
  rw [printJ]
  simp only [sumP] at h
  simp
  omega
theorem arr2_print (hv : rightJ 2 v = true) (hw : rightJ 2 w = true) : (printS (arr2 v w) == printS (arr2 w v)) = sameJ v w := by
  have h1 := arr2_right hv hw
  have h2 := arr2_right hw hv
  unfold printS
  rw [h1, h2, if_pos rfl, if_pos rfl, print_same h1 h2, arr2_same]
end
/-- Two items in memory. -/
theorem jat_two {S : Nat → Prop} {w : World} {d : Nat} {k : Int} {nv : Value} {ns : List (List UInt8)} {b : Nat} {T : TypeId} {f : Nat × Nat} {c0 c1 c2 c3 c4 c5 d0 d1 d2 d3 d4 d5 : Value} {j j' : J} (hk : i64B k) (hn : StrsAt S w nv ns) (hS : S b)
    (hb : w.heap[b]? = some (.cells #[c0, c1, c2, c3, c4, c5, d0, d1, d2, d3, d4, d5] T f)) (hJ : JAt S w d (.agg #[c0, c1, c2, c3, c4, c5]) j) (hJ' : JAt S w d (.agg #[d0, d1, d2, d3, d4, d5]) j') :
    JAt S w (d + 1) (.agg #[.int .i64 k, .int .i64 0, .int .i64 0, .string ⟨#[]⟩, nv, .slice (some ⟨b, 0, none⟩) 2 2]) (.mk k 0 0 [] ns [j, j']) := by
  have z : i64B 0 := ⟨by decide, by decide⟩
  refine ⟨nv, some ⟨b, 0, none⟩, 2, rfl, hk, z, z, by unfold txtB; simp, hn, by simp, by simp, fun _ => ⟨b, 0, rfl, hS, Own.block_lt hb, fun i hi => ?_⟩⟩
  have hi2 : i = 0 ∨ i = 1 := by simp at hi; omega
  rcases hi2 with rfl | rfl
  · refine ⟨_, fun q c hc => ?_, hJ⟩
    have hq : q < 6 := by have := (List.getElem?_eq_some_iff.1 hc).1; simpa [aggC] using this
    rw [cell_of_row _ _ _ _ _ _ hb]
    have : [c0, c1, c2, c3, c4, c5][q]? = some c := hc
    rcases (by omega : q = 0 ∨ q = 1 ∨ q = 2 ∨ q = 3 ∨ q = 4 ∨ q = 5) with rfl | rfl | rfl | rfl | rfl | rfl <;> simpa using this
  · refine ⟨_, fun q c hc => ?_, hJ'⟩
    have hq : q < 6 := by have := (List.getElem?_eq_some_iff.1 hc).1; simpa [aggC] using this
    rw [cell_of_row _ _ _ _ _ _ hb]
    have : [d0, d1, d2, d3, d4, d5][q]? = some c := hc
    rcases (by omega : q = 0 ∨ q = 1 ∨ q = 2 ∨ q = 3 ∨ q = 4 ∨ q = 5) with rfl | rfl | rfl | rfl | rfl | rfl <;> simpa using this
theorem strs_two {S : Nat → Prop} {w : World} {b : Nat} {T : TypeId} {f : Nat × Nat} {t t' : List UInt8} (ht : txtB t) (ht' : txtB t') (hS : S b) (hb : w.heap[b]? = some (.cells #[.string ⟨t.toArray⟩, .string ⟨t'.toArray⟩] T f)) : StrsAt S w (.slice (some ⟨b, 0, none⟩) 2 2) [t, t'] :=
  ⟨some ⟨b, 0, none⟩, 2, rfl, by simp, by simp, fun x hx => by
    rcases List.mem_cons.1 hx with rfl | hx
    · exact ht
    · rw [List.mem_singleton.1 hx]; exact ht', fun _ => ⟨b, 0, rfl, hS, Own.block_lt hb, fun j hj => by
    have hj2 : j = 0 ∨ j = 1 := by simp at hj; omega
    rw [cell_of_row _ _ _ _ _ _ hb]
    rcases hj2 with rfl | rfl <;> rfl⟩⟩
end Go.Proofs.YtnkgkhkkcjebgaaGreatDoor.Js

/- The walk of the law JsonNames: it answers true. -/
set_option linter.unusedVariables false
set_option linter.unusedSimpArgs false
namespace Go.Proofs.YtnkgkhkkcjebgaaGreatDoor.Js
open Go.RowKit Lex
open Quo (textR)

theorem two_boxn {w w1 : World} {o1 o2 : Obj} (hb : Below ((w.alloc o1).alloc o2).heap.size ((w.alloc o1).alloc o2) w1) : w1.heap[w.heap.size]? = some o1 ∧ w1.heap[w.heap.size + 1]? = some o2 ∧ w.heap.size + 1 < w1.heap.size ∧ Below w.heap.size w w1 := by
  have hs := hb.size
  simp at hs
  exact ⟨(hb.block _ (by simp; omega)).trans (two_old w o1 o2), (hb.block _ (by simp)).trans (two_new w o1 o2), by omega, (below2 w _ _).trans (hb.mono (by simp; omega))⟩

theorem keep_a {W : World} {o x : Obj} {b : Nat} (h : W.heap[b]? = some x) : (W.alloc o).heap[b]? = some x := (Below.heap_alloc _ _ _ (Own.block_lt h)).trans h
theorem ten_blocks (w : World) (o0 o1 o2 o3 o4 o5 o6 o7 o8 o9 : Obj) : ((((((((((w.alloc o0).alloc o1).alloc o2).alloc o3).alloc o4).alloc o5).alloc o6).alloc o7).alloc o8).alloc o9).heap[w.heap.size]? = some o0 ∧ ((((((((((w.alloc o0).alloc o1).alloc o2).alloc o3).alloc o4).alloc o5).alloc o6).alloc o7).alloc o8).alloc o9).heap[w.heap.size + 1]? = some o1 ∧ ((((((((((w.alloc o0).alloc o1).alloc o2).alloc o3).alloc o4).alloc o5).alloc o6).alloc o7).alloc o8).alloc o9).heap[w.heap.size + 1 + 1]? = some o2 ∧ ((((((((((w.alloc o0).alloc o1).alloc o2).alloc o3).alloc o4).alloc o5).alloc o6).alloc o7).alloc o8).alloc o9).heap[w.heap.size + 1 + 1 + 1]? = some o3 ∧ ((((((((((w.alloc o0).alloc o1).alloc o2).alloc o3).alloc o4).alloc o5).alloc o6).alloc o7).alloc o8).alloc o9).heap[w.heap.size + 1 + 1 + 1 + 1]? = some o4 ∧ ((((((((((w.alloc o0).alloc o1).alloc o2).alloc o3).alloc o4).alloc o5).alloc o6).alloc o7).alloc o8).alloc o9).heap[w.heap.size + 1 + 1 + 1 + 1 + 1]? = some o5 ∧ ((((((((((w.alloc o0).alloc o1).alloc o2).alloc o3).alloc o4).alloc o5).alloc o6).alloc o7).alloc o8).alloc o9).heap[w.heap.size + 1 + 1 + 1 + 1 + 1 + 1]? = some o6 ∧ ((((((((((w.alloc o0).alloc o1).alloc o2).alloc o3).alloc o4).alloc o5).alloc o6).alloc o7).alloc o8).alloc o9).heap[w.heap.size + 1 + 1 + 1 + 1 + 1 + 1 + 1]? = some o7 ∧ ((((((((((w.alloc o0).alloc o1).alloc o2).alloc o3).alloc o4).alloc o5).alloc o6).alloc o7).alloc o8).alloc o9).heap[w.heap.size + 1 + 1 + 1 + 1 + 1 + 1 + 1 + 1]? = some o8 ∧ ((((((((((w.alloc o0).alloc o1).alloc o2).alloc o3).alloc o4).alloc o5).alloc o6).alloc o7).alloc o8).alloc o9).heap[w.heap.size + 1 + 1 + 1 + 1 + 1 + 1 + 1 + 1 + 1]? = some o9 ∧ ((((((((((w.alloc o0).alloc o1).alloc o2).alloc o3).alloc o4).alloc o5).alloc o6).alloc o7).alloc o8).alloc o9).heap.size = w.heap.size + 1 + 1 + 1 + 1 + 1 + 1 + 1 + 1 + 1 + 1 ∧ Below w.heap.size w ((((((((((w.alloc o0).alloc o1).alloc o2).alloc o3).alloc o4).alloc o5).alloc o6).alloc o7).alloc o8).alloc o9) := by
  have s1 : (w.alloc o0).heap.size = w.heap.size + 1 := by rw [World.size_alloc]
  have s2 : ((w.alloc o0).alloc o1).heap.size = w.heap.size + 1 + 1 := by rw [World.size_alloc, s1]
  have s3 : (((w.alloc o0).alloc o1).alloc o2).heap.size = w.heap.size + 1 + 1 + 1 := by rw [World.size_alloc, s2]
  have s4 : ((((w.alloc o0).alloc o1).alloc o2).alloc o3).heap.size = w.heap.size + 1 + 1 + 1 + 1 := by rw [World.size_alloc, s3]
  have s5 : (((((w.alloc o0).alloc o1).alloc o2).alloc o3).alloc o4).heap.size = w.heap.size + 1 + 1 + 1 + 1 + 1 := by rw [World.size_alloc, s4]
  have s6 : ((((((w.alloc o0).alloc o1).alloc o2).alloc o3).alloc o4).alloc o5).heap.size = w.heap.size + 1 + 1 + 1 + 1 + 1 + 1 := by rw [World.size_alloc, s5]
  have s7 : (((((((w.alloc o0).alloc o1).alloc o2).alloc o3).alloc o4).alloc o5).alloc o6).heap.size = w.heap.size + 1 + 1 + 1 + 1 + 1 + 1 + 1 := by rw [World.size_alloc, s6]
  have s8 : ((((((((w.alloc o0).alloc o1).alloc o2).alloc o3).alloc o4).alloc o5).alloc o6).alloc o7).heap.size = w.heap.size + 1 + 1 + 1 + 1 + 1 + 1 + 1 + 1 := by rw [World.size_alloc, s7]
  have s9 : (((((((((w.alloc o0).alloc o1).alloc o2).alloc o3).alloc o4).alloc o5).alloc o6).alloc o7).alloc o8).heap.size = w.heap.size + 1 + 1 + 1 + 1 + 1 + 1 + 1 + 1 + 1 := by rw [World.size_alloc, s8]
  have s10 : ((((((((((w.alloc o0).alloc o1).alloc o2).alloc o3).alloc o4).alloc o5).alloc o6).alloc o7).alloc o8).alloc o9).heap.size = w.heap.size + 1 + 1 + 1 + 1 + 1 + 1 + 1 + 1 + 1 + 1 := by rw [World.size_alloc, s9]
  have n0 := heap_alloc_new w o0
  have n1 := heap_alloc_new (w.alloc o0) o1
  rw [s1] at n1
  have n2 := heap_alloc_new ((w.alloc o0).alloc o1) o2
  rw [s2] at n2
  have n3 := heap_alloc_new (((w.alloc o0).alloc o1).alloc o2) o3
  rw [s3] at n3
  have n4 := heap_alloc_new ((((w.alloc o0).alloc o1).alloc o2).alloc o3) o4
  rw [s4] at n4
  have n5 := heap_alloc_new (((((w.alloc o0).alloc o1).alloc o2).alloc o3).alloc o4) o5
  rw [s5] at n5
  have n6 := heap_alloc_new ((((((w.alloc o0).alloc o1).alloc o2).alloc o3).alloc o4).alloc o5) o6
  rw [s6] at n6
  have n7 := heap_alloc_new (((((((w.alloc o0).alloc o1).alloc o2).alloc o3).alloc o4).alloc o5).alloc o6) o7
  rw [s7] at n7
  have n8 := heap_alloc_new ((((((((w.alloc o0).alloc o1).alloc o2).alloc o3).alloc o4).alloc o5).alloc o6).alloc o7) o8
  rw [s8] at n8
  have n9 := heap_alloc_new (((((((((w.alloc o0).alloc o1).alloc o2).alloc o3).alloc o4).alloc o5).alloc o6).alloc o7).alloc o8) o9
  rw [s9] at n9
  exact ⟨(keep_a (keep_a (keep_a (keep_a (keep_a (keep_a (keep_a (keep_a (keep_a n0))))))))), (keep_a (keep_a (keep_a (keep_a (keep_a (keep_a (keep_a (keep_a n1)))))))), (keep_a (keep_a (keep_a (keep_a (keep_a (keep_a (keep_a n2))))))), (keep_a (keep_a (keep_a (keep_a (keep_a (keep_a n3)))))), (keep_a (keep_a (keep_a (keep_a (keep_a n4))))), (keep_a (keep_a (keep_a (keep_a n5)))), (keep_a (keep_a (keep_a n6))), (keep_a (keep_a n7)), (keep_a n8), n9, s10, below_step (below_step (below_step (below_step (below_step (below_step (below_step (below_step (below_step (below_a w _) (below_a _ _)) (below_a _ _)) (below_a _ _)) (below_a _ _)) (below_a _ _)) (below_a _ _)) (below_a _ _)) (below_a _ _)) (below_a _ _)⟩
theorem ja_two {w : World} {k : Int} {nv : Value} {ns : List (List UInt8)} {b : Nat} {T : TypeId} {c0 c1 c2 c3 c4 c5 d0 d1 d2 d3 d4 d5 : Value} {j j' : J} (hk : i64B k) (hn : StrsAt Any w nv ns)
    (hb : w.heap[b]? = some (.cells #[c0, c1, c2, c3, c4, c5, d0, d1, d2, d3, d4, d5] T (0, 0))) (hJ : JA Any w (.agg #[c0, c1, c2, c3, c4, c5]) j) (hJ' : JA Any w (.agg #[d0, d1, d2, d3, d4, d5]) j') :
    JA Any w (.agg #[.int .i64 k, .int .i64 0, .int .i64 0, .string ⟨#[]⟩, nv, .slice (some ⟨b, 0, none⟩) 2 2]) (.mk k 0 0 [] ns [j, j']) := by
  obtain ⟨d, h⟩ := hJ
  obtain ⟨d', h'⟩ := hJ'
  exact ⟨max d d' + 1, jat_two hk hn trivial hb (h.deep (Nat.le_max_left ..)) (h'.deep (Nat.le_max_right ..))⟩

set_option maxHeartbeats 8000000 in
set_option maxRecDepth 100000 in
theorem names_walk (v : Value) (r : RT) (v' : Value) (r' : RT) (u : Value) (t : List Int) (u' : Value) (t' : List Int) (w : World) (hT : Dec.Tab w) (hR : RAt w 13 v r) (hs : rsz r ≤ 1048576) (hR' : RAt w 13 v' r') (hs' : rsz r' ≤ 1048576) (hu : TxtAt w u t) (hu' : TxtAt w u' t') : Calls Tryz.prog 10 #[v, v', u, u'] w (Ret (.bool true) w) := by
  have A1 := Lib.hid (fun (w' : World) (hb : Below w.heap.size w w') => awake_any w' (hT.below hb))
  obtain ⟨k, m, e, ao, tl, c, ai, ni, ci, rfl, -⟩ := hR.form
  obtain ⟨k', m', e', ao', tl', c', ai', ni', ci', rfl, -⟩ := hR'.form
  have F1 := Lib.hid (fun (w' : World) (hb : Below w.heap.size w w') => fit_at 13 (by omega) 3 rfl w' _ r (hR.below hb))
  have F2 := Lib.hid (fun (w' : World) (hb : Below w.heap.size w w') => fit_at 13 (by omega) 3 rfl w' _ r' (hR'.below hb))
  have HT : Hid (∀ w', Below w.heap.size w w' → Dec.Tab w') := fun w' hb => hT.below hb
  obtain ⟨_, bo, bc, rfl, hc, hl⟩ := id hu
  obtain ⟨_, bo', bc', rfl, hc', hl'⟩ := id hu'
  have T1 : Hid (∀ w', Below w.heap.size w w' → Calls Tryz.prog 24 #[.slice bo (min (t.length : Int) 9).toNat bc] w' (Ret (.string ⟨(Quo.flat (textR (t.take 9))).toArray⟩) w')) := fun w' hb => text_of _ _ w' ((hu.take 9).below hb)
  have T2 : Hid (∀ w', Below w.heap.size w w' → Calls Tryz.prog 24 #[.slice bo' (min (t'.length : Int) 9).toNat bc'] w' (Ret (.string ⟨(Quo.flat (textR (t'.take 9))).toArray⟩) w')) := fun w' hb => text_of _ _ w' ((hu'.take 9).below hb)
  have ha := textR_lenN 9 t
  have hb := textR_lenN 9 t'
  have wa := whole_name (t.take 9)
  have wb := whole_name (t'.take 9)
  have rv := fit_right 13 2 r (by omega)
  have rw' := fit_right 13 2 r' (by omega)
  have lv : (printJ (fitJ 13 r)).length ≤ 209715200 := by have := fit_len 13 r; omega
  have lw : (printJ (fitJ 13 r')).length ≤ 209715200 := by have := fit_len 13 r'; omega
  clear hR hs hT hR' hs' hu hu'
  generalize fitJ 13 r = jj at *
  generalize fitJ 13 r' = jw at *
  generalize Quo.flat (textR (t.take 9)) = na at *
  generalize Quo.flat (textR (t'.take 9)) = nb at *
  generalize t.length = n1 at *
  generalize t'.length = n2 at *
  have HX := Lib.hid (And.intro ha (And.intro hb (And.intro wa (And.intro wb (And.intro rv (And.intro rw' (And.intro lv lw)))))))
  clear ha hb wa wb rv rw' lv lw
  go_enter Tryz.func10, Tryz.ntmps10
  go_wp2_with (first
    | (go_at_call 11; (with_reducible refine (A1.out _ (below2 _ _ _)).mono ?_); rintro e1 w1 ⟨rfl, hb1⟩; obtain ⟨x1, x2, x3, hbw1⟩ := two_boxn hb1; obtain ⟨y0, y1, y2, y3, y4⟩ := five_of x1; obtain ⟨z0, z1, z2, z3, z4⟩ := five_of x2)
    | (go_at_call 12; (with_reducible refine (F1.out _ hbw1).mono ?_); rintro e2 w2 ⟨k2, m2, e2', t2, an2, nn2, cn2, ai2, ni2, ci2, rfl, hJ2, hb2⟩; have hbw2 := below_step hbw1 (below_step hb2 (below_a w2 (.cells #[.int .i64 k2, .int .i64 m2, .int .i64 e2', .string t2, .slice an2 nn2 cn2, .slice ai2 ni2 ci2] 27))); have x4 := ((below_step hb2 (below_a w2 (.cells #[.int .i64 k2, .int .i64 m2, .int .i64 e2', .string t2, .slice an2 nn2 cn2, .slice ai2 ni2 ci2] 27))).block _ x3).trans x2; obtain ⟨q0, q1, q2, q3, q4⟩ := five_of x4; have HJ2 := Lib.hid hJ2)
    | (go_at_call 12; (with_reducible refine (F2.out _ hbw2).mono ?_); rintro e3 w3 ⟨k3, m3, e3', t3, an3, nn3, cn3, ai3, ni3, ci3, rfl, hJ3, hb3⟩; obtain ⟨x5, x6, hb23⟩ := box6 hb3; have hbw3 := below_step hbw2 (below_step hb3 (below_a w3 (.cells #[.int .i64 k3, .int .i64 m3, .int .i64 e3', .string t3, .slice an3 nn3 cn3, .slice ai3 ni3 ci3] 27))))
    | (go_at_call 24; (with_reducible refine (T1.out _ hbw3).mono ?_); rintro e4 w4 ⟨rfl, hb4⟩; have hbw4 := below_step hbw3 hb4)
    | (go_at_call 24; (with_reducible refine (T2.out _ hbw4).mono ?_); rintro e5 w5 ⟨rfl, hb5⟩; have hb45 := below_step hb4 hb5; obtain ⟨x7, x8, hb35⟩ := box6 hb45; have x9 := (hb35.block _ x6).trans x5; obtain ⟨a0, a1, a2, a3, a4, a5⟩ := six_of x9; obtain ⟨b0, b1, b2, b3, b4, b5⟩ := six_of x7; have x10 : w2.heap.size < w5.heap.size := Own.block_lt x9; have ga1 : w2.heap.size < w5.heap.size + 1 := (by omega); have gb1 : w3.heap.size < w5.heap.size + 1 := (by omega); have ga2 : w2.heap.size < w5.heap.size + 1 + 1 := (by omega); have gb2 : w3.heap.size < w5.heap.size + 1 + 1 := (by omega); have ga3 : w2.heap.size < w5.heap.size + 1 + 1 + 1 := (by omega); have gb3 : w3.heap.size < w5.heap.size + 1 + 1 + 1 := (by omega); have ga4 : w2.heap.size < w5.heap.size + 1 + 1 + 1 + 1 := (by omega); have gb4 : w3.heap.size < w5.heap.size + 1 + 1 + 1 + 1 := (by omega); have ga5 : w2.heap.size < w5.heap.size + 1 + 1 + 1 + 1 + 1 := (by omega); have gb5 : w3.heap.size < w5.heap.size + 1 + 1 + 1 + 1 + 1 := (by omega); have ga6 : w2.heap.size < w5.heap.size + 1 + 1 + 1 + 1 + 1 + 1 := (by omega); have gb6 : w3.heap.size < w5.heap.size + 1 + 1 + 1 + 1 + 1 + 1 := (by omega); have ga7 : w2.heap.size < w5.heap.size + 1 + 1 + 1 + 1 + 1 + 1 + 1 := (by omega); have gb7 : w3.heap.size < w5.heap.size + 1 + 1 + 1 + 1 + 1 + 1 + 1 := (by omega); have ga8 : w2.heap.size < w5.heap.size + 1 + 1 + 1 + 1 + 1 + 1 + 1 + 1 := (by omega); have gb8 : w3.heap.size < w5.heap.size + 1 + 1 + 1 + 1 + 1 + 1 + 1 + 1 := (by omega); have ga9 : w2.heap.size < w5.heap.size + 1 + 1 + 1 + 1 + 1 + 1 + 1 + 1 + 1 := (by omega); have gb9 : w3.heap.size < w5.heap.size + 1 + 1 + 1 + 1 + 1 + 1 + 1 + 1 + 1 := (by omega)))
  obtain ⟨B0, B1, B2, B3, B4, B5, B6, B7, B8, B9, BS, BW⟩ := ten_blocks w5 (.cells #[.string ⟨na.toArray⟩, .string ⟨nb.toArray⟩] 9) (.cells #[.int .i64 k2, .int .i64 m2, .int .i64 e2', .string t2, .slice an2 nn2 cn2, .slice ai2 ni2 ci2, .int .i64 k3, .int .i64 m3, .int .i64 e3', .string t3, .slice an3 nn3 cn3, .slice ai3 ni3 ci3] 27) (.cells #[.int .i64 7, .int .i64 0, .int .i64 0, .string ⟨#[]⟩, .slice (some ⟨w5.heap.size, 0, none⟩) 2 2, .slice (some ⟨w5.heap.size + 1, 0, none⟩) 2 2] 27) (.cells #[.string ⟨nb.toArray⟩, .string ⟨na.toArray⟩] 9) (.cells #[.int .i64 k3, .int .i64 m3, .int .i64 e3', .string t3, .slice an3 nn3 cn3, .slice ai3 ni3 ci3, .int .i64 k2, .int .i64 m2, .int .i64 e2', .string t2, .slice an2 nn2 cn2, .slice ai2 ni2 ci2] 27) (.cells #[.int .i64 7, .int .i64 0, .int .i64 0, .string ⟨#[]⟩, .slice (some ⟨w5.heap.size + 1 + 1 + 1, 0, none⟩) 2 2, .slice (some ⟨w5.heap.size + 1 + 1 + 1 + 1, 0, none⟩) 2 2] 27) (.cells #[.int .i64 k2, .int .i64 m2, .int .i64 e2', .string t2, .slice an2 nn2 cn2, .slice ai2 ni2 ci2, .int .i64 k3, .int .i64 m3, .int .i64 e3', .string t3, .slice an3 nn3 cn3, .slice ai3 ni3 ci3] 27) (.cells #[.int .i64 6, .int .i64 0, .int .i64 0, .string ⟨#[]⟩, .slice none 0 0, .slice (some ⟨w5.heap.size + 1 + 1 + 1 + 1 + 1 + 1, 0, none⟩) 2 2] 27) (.cells #[.int .i64 k3, .int .i64 m3, .int .i64 e3', .string t3, .slice an3 nn3 cn3, .slice ai3 ni3 ci3, .int .i64 k2, .int .i64 m2, .int .i64 e2', .string t2, .slice an2 nn2 cn2, .slice ai2 ni2 ci2] 27) (.cells #[.int .i64 6, .int .i64 0, .int .i64 0, .string ⟨#[]⟩, .slice none 0 0, .slice (some ⟨w5.heap.size + 1 + 1 + 1 + 1 + 1 + 1 + 1 + 1, 0, none⟩) 2 2] 27)
  generalize hW0 : ((((((((((w5.alloc (.cells #[.string ⟨na.toArray⟩, .string ⟨nb.toArray⟩] 9)).alloc (.cells #[.int .i64 k2, .int .i64 m2, .int .i64 e2', .string t2, .slice an2 nn2 cn2, .slice ai2 ni2 ci2, .int .i64 k3, .int .i64 m3, .int .i64 e3', .string t3, .slice an3 nn3 cn3, .slice ai3 ni3 ci3] 27)).alloc (.cells #[.int .i64 7, .int .i64 0, .int .i64 0, .string ⟨#[]⟩, .slice (some ⟨w5.heap.size, 0, none⟩) 2 2, .slice (some ⟨w5.heap.size + 1, 0, none⟩) 2 2] 27)).alloc (.cells #[.string ⟨nb.toArray⟩, .string ⟨na.toArray⟩] 9)).alloc (.cells #[.int .i64 k3, .int .i64 m3, .int .i64 e3', .string t3, .slice an3 nn3 cn3, .slice ai3 ni3 ci3, .int .i64 k2, .int .i64 m2, .int .i64 e2', .string t2, .slice an2 nn2 cn2, .slice ai2 ni2 ci2] 27)).alloc (.cells #[.int .i64 7, .int .i64 0, .int .i64 0, .string ⟨#[]⟩, .slice (some ⟨w5.heap.size + 1 + 1 + 1, 0, none⟩) 2 2, .slice (some ⟨w5.heap.size + 1 + 1 + 1 + 1, 0, none⟩) 2 2] 27)).alloc (.cells #[.int .i64 k2, .int .i64 m2, .int .i64 e2', .string t2, .slice an2 nn2 cn2, .slice ai2 ni2 ci2, .int .i64 k3, .int .i64 m3, .int .i64 e3', .string t3, .slice an3 nn3 cn3, .slice ai3 ni3 ci3] 27)).alloc (.cells #[.int .i64 6, .int .i64 0, .int .i64 0, .string ⟨#[]⟩, .slice none 0 0, .slice (some ⟨w5.heap.size + 1 + 1 + 1 + 1 + 1 + 1, 0, none⟩) 2 2] 27)).alloc (.cells #[.int .i64 k3, .int .i64 m3, .int .i64 e3', .string t3, .slice an3 nn3 cn3, .slice ai3 ni3 ci3, .int .i64 k2, .int .i64 m2, .int .i64 e2', .string t2, .slice an2 nn2 cn2, .slice ai2 ni2 ci2] 27)).alloc (.cells #[.int .i64 6, .int .i64 0, .int .i64 0, .string ⟨#[]⟩, .slice none 0 0, .slice (some ⟨w5.heap.size + 1 + 1 + 1 + 1 + 1 + 1 + 1 + 1, 0, none⟩) 2 2] 27)) = W0 at *
  clear hW0
  have cx : W0.heap[w2.heap.size]? = _ := (BW.block _ x10).trans x9
  have cy : W0.heap[w3.heap.size]? = _ := (BW.block _ x8).trans x7
  have jA : JA Any W0 (.agg #[.int .i64 k2, .int .i64 m2, .int .i64 e2', .string t2, .slice an2 nn2 cn2, .slice ai2 ni2 ci2]) jj := ((HJ2.out.below hb23 (Nat.le_refl _)).below (below_step (below_a _ _) hb45) (Nat.le_refl _)).below BW (Nat.le_refl _)
  have jB : JA Any W0 (.agg #[.int .i64 k3, .int .i64 m3, .int .i64 e3', .string t3, .slice an3 nn3 cn3, .slice ai3 ni3 ci3]) jw := ((hJ3.below (below_step (below_a _ _) hb45) (Nat.le_refl _))).below BW (Nat.le_refl _)
  have hW : Below w.heap.size w W0 := below_step (below_step hbw4 hb5) BW
  obtain ⟨qa, qb, wa, wb, rv, rw', lv, lw⟩ := HX.out
  have txa : txtB na := by unfold txtB; omega
  have txb : txtB nb := by unfold txtB; omega
  have jP : JA Any W0 (.agg #[.int .i64 7, .int .i64 0, .int .i64 0, .string ⟨#[]⟩, .slice (some ⟨w5.heap.size, 0, none⟩) 2 2, .slice (some ⟨w5.heap.size + 1, 0, none⟩) 2 2]) (obj2 na nb jj jw) := ja_two ⟨by decide, by decide⟩ (strs_two txa txb trivial B0) B1 jA jB
  have jQ : JA Any W0 (.agg #[.int .i64 7, .int .i64 0, .int .i64 0, .string ⟨#[]⟩, .slice (some ⟨w5.heap.size + 1 + 1 + 1, 0, none⟩) 2 2, .slice (some ⟨w5.heap.size + 1 + 1 + 1 + 1, 0, none⟩) 2 2]) (obj2 nb na jw jj) := ja_two ⟨by decide, by decide⟩ (strs_two txb txa trivial B3) B4 jB jA
  have jR : JA Any W0 (.agg #[.int .i64 6, .int .i64 0, .int .i64 0, .string ⟨#[]⟩, .slice none 0 0, .slice (some ⟨w5.heap.size + 1 + 1 + 1 + 1 + 1 + 1, 0, none⟩) 2 2]) (arr2 jj jw) := ja_two ⟨by decide, by decide⟩ strs_nil B6 jA jB
  have jS : JA Any W0 (.agg #[.int .i64 6, .int .i64 0, .int .i64 0, .string ⟨#[]⟩, .slice none 0 0, .slice (some ⟨w5.heap.size + 1 + 1 + 1 + 1 + 1 + 1 + 1 + 1, 0, none⟩) 2 2]) (arr2 jw jj) := ja_two ⟨by decide, by decide⟩ strs_nil B8 jB jA
  obtain ⟨sb, hsb⟩ : ∃ sb, sameJ jj jw = sb := ⟨_, rfl⟩
  have hXY := arr2_print rv rw'
  rw [hsb] at hXY
  have RP : Hid (∀ w', Below W0.heap.size W0 w' → Calls Tryz.prog 14 #[.agg #[.int .i64 7, .int .i64 0, .int .i64 0, .string ⟨#[]⟩, .slice (some ⟨w5.heap.size, 0, none⟩) 2 2, .slice (some ⟨w5.heap.size + 1, 0, none⟩) 2 2]] w' (Ret (.bool (na != nb)) w')) := fun w' hb => by rw [← obj2_right wa wb rv rw']; exact right_of Any _ _ w' (jP.below hb (Nat.le_refl _))
  have RR : Hid (∀ w', Below W0.heap.size W0 w' → Calls Tryz.prog 14 #[.agg #[.int .i64 6, .int .i64 0, .int .i64 0, .string ⟨#[]⟩, .slice none 0 0, .slice (some ⟨w5.heap.size + 1 + 1 + 1 + 1 + 1 + 1, 0, none⟩) 2 2]] w' (Ret (.bool true) w')) := fun w' hb => by rw [← arr2_right rv rw']; exact right_of Any _ _ w' (jR.below hb (Nat.le_refl _))
  have SP : Hid (∀ w', Below W0.heap.size W0 w' → Calls Tryz.prog 17 #[.agg #[.int .i64 7, .int .i64 0, .int .i64 0, .string ⟨#[]⟩, .slice (some ⟨w5.heap.size, 0, none⟩) 2 2, .slice (some ⟨w5.heap.size + 1, 0, none⟩) 2 2], .agg #[.int .i64 7, .int .i64 0, .int .i64 0, .string ⟨#[]⟩, .slice (some ⟨w5.heap.size + 1 + 1 + 1, 0, none⟩) 2 2, .slice (some ⟨w5.heap.size + 1 + 1 + 1 + 1, 0, none⟩) 2 2]] w' (Ret (.bool (na == nb && sb)) w')) := fun w' hb => by rw [← hsb, ← obj2_same]; exact same_of Any Any _ _ _ _ w' (jP.below hb (Nat.le_refl _)) (jQ.below hb (Nat.le_refl _))
  have SV : Hid (∀ w', Below W0.heap.size W0 w' → Calls Tryz.prog 17 #[.agg #[.int .i64 k2, .int .i64 m2, .int .i64 e2', .string t2, .slice an2 nn2 cn2, .slice ai2 ni2 ci2], .agg #[.int .i64 k3, .int .i64 m3, .int .i64 e3', .string t3, .slice an3 nn3 cn3, .slice ai3 ni3 ci3]] w' (Ret (.bool sb) w')) := fun w' hb => by rw [← hsb]; exact same_of Any Any _ _ _ _ w' (jA.below hb (Nat.le_refl _)) (jB.below hb (Nat.le_refl _))
  have SR : Hid (∀ w', Below W0.heap.size W0 w' → Calls Tryz.prog 17 #[.agg #[.int .i64 6, .int .i64 0, .int .i64 0, .string ⟨#[]⟩, .slice none 0 0, .slice (some ⟨w5.heap.size + 1 + 1 + 1 + 1 + 1 + 1, 0, none⟩) 2 2], .agg #[.int .i64 6, .int .i64 0, .int .i64 0, .string ⟨#[]⟩, .slice none 0 0, .slice (some ⟨w5.heap.size + 1 + 1 + 1 + 1 + 1 + 1 + 1 + 1, 0, none⟩) 2 2]] w' (Ret (.bool sb) w')) := fun w' hb => by rw [← hsb, ← arr2_same]; exact same_of Any Any _ _ _ _ w' (jR.below hb (Nat.le_refl _)) (jS.below hb (Nat.le_refl _))
  have PR : Hid (∀ w', Below W0.heap.size W0 w' → Calls Tryz.prog 16 #[.agg #[.int .i64 6, .int .i64 0, .int .i64 0, .string ⟨#[]⟩, .slice none 0 0, .slice (some ⟨w5.heap.size + 1 + 1 + 1 + 1 + 1 + 1, 0, none⟩) 2 2]] w' (Ret (.string ⟨(printS (arr2 jj jw)).toArray⟩) w')) := fun w' hb => print_of Any _ _ w' (HT.out _ (below_step hW hb)) (jR.below hb (Nat.le_refl _)) (by have := arr2_len lv lw; omega)
  have PS : Hid (∀ w', Below W0.heap.size W0 w' → Calls Tryz.prog 16 #[.agg #[.int .i64 6, .int .i64 0, .int .i64 0, .string ⟨#[]⟩, .slice none 0 0, .slice (some ⟨w5.heap.size + 1 + 1 + 1 + 1 + 1 + 1 + 1 + 1, 0, none⟩) 2 2]] w' (Ret (.string ⟨(printS (arr2 jw jj)).toArray⟩) w')) := fun w' hb => print_of Any _ _ w' (HT.out _ (below_step hW hb)) (jS.below hb (Nat.le_refl _)) (by have := arr2_len lw lv; omega)
  generalize printS (arr2 jj jw) = X at *
  generalize printS (arr2 jw jj) = Y at *
  obtain ⟨cv0, cv1, cv2, cv3, cv4, cv5⟩ := six_of cx
  have lv : w2.heap.size < W0.heap.size := Own.block_lt cx
  obtain ⟨cu0, cu1, cu2, cu3, cu4, cu5⟩ := six_of cy
  have lu : w3.heap.size < W0.heap.size := Own.block_lt cy
  obtain ⟨cp0, cp1, cp2, cp3, cp4, cp5⟩ := six_of B2
  have lp : w5.heap.size + 1 + 1 < W0.heap.size := Own.block_lt B2
  obtain ⟨cq0, cq1, cq2, cq3, cq4, cq5⟩ := six_of B5
  have lq : w5.heap.size + 1 + 1 + 1 + 1 + 1 < W0.heap.size := Own.block_lt B5
  obtain ⟨cr0, cr1, cr2, cr3, cr4, cr5⟩ := six_of B7
  have lr : w5.heap.size + 1 + 1 + 1 + 1 + 1 + 1 + 1 < W0.heap.size := Own.block_lt B7
  obtain ⟨cs0, cs1, cs2, cs3, cs4, cs5⟩ := six_of B9
  have ls : w5.heap.size + 1 + 1 + 1 + 1 + 1 + 1 + 1 + 1 + 1 < W0.heap.size := Own.block_lt B9
  have HW := Lib.hid hW
  have rcv0 := cell_regrown cv0
  have rcv1 := cell_regrown cv1
  have rcv2 := cell_regrown cv2
  have rcv3 := cell_regrown cv3
  have rcv4 := cell_regrown cv4
  have rcv5 := cell_regrown cv5
  have rcu0 := cell_regrown cu0
  have rcu1 := cell_regrown cu1
  have rcu2 := cell_regrown cu2
  have rcu3 := cell_regrown cu3
  have rcu4 := cell_regrown cu4
  have rcu5 := cell_regrown cu5
  have rcp0 := cell_regrown cp0
  have rcp1 := cell_regrown cp1
  have rcp2 := cell_regrown cp2
  have rcp3 := cell_regrown cp3
  have rcp4 := cell_regrown cp4
  have rcp5 := cell_regrown cp5
  have rcq0 := cell_regrown cq0
  have rcq1 := cell_regrown cq1
  have rcq2 := cell_regrown cq2
  have rcq3 := cell_regrown cq3
  have rcq4 := cell_regrown cq4
  have rcq5 := cell_regrown cq5
  have rcr0 := cell_regrown cr0
  have rcr1 := cell_regrown cr1
  have rcr2 := cell_regrown cr2
  have rcr3 := cell_regrown cr3
  have rcr4 := cell_regrown cr4
  have rcr5 := cell_regrown cr5
  have rcs0 := cell_regrown cs0
  have rcs1 := cell_regrown cs1
  have rcs2 := cell_regrown cs2
  have rcs3 := cell_regrown cs3
  have rcs4 := cell_regrown cs4
  have rcs5 := cell_regrown cs5
  have cRP := Lib.hid (fun (d : Nat) (os : Array Obj) => Calls.regrown_of (RP.out _ (below_regrown W0 d os)))
  have cRR := Lib.hid (fun (d : Nat) (os : Array Obj) => Calls.regrown_of (RR.out _ (below_regrown W0 d os)))
  have cSP := Lib.hid (fun (d : Nat) (os : Array Obj) => Calls.regrown_of (SP.out _ (below_regrown W0 d os)))
  have cSV := Lib.hid (fun (d : Nat) (os : Array Obj) => Calls.regrown_of (SV.out _ (below_regrown W0 d os)))
  have cSR := Lib.hid (fun (d : Nat) (os : Array Obj) => Calls.regrown_of (SR.out _ (below_regrown W0 d os)))
  have cPR := Lib.hid (fun (d : Nat) (os : Array Obj) => Calls.regrown_of (PR.out _ (below_regrown W0 d os)))
  have cPS := Lib.hid (fun (d : Nat) (os : Array Obj) => Calls.regrown_of (PS.out _ (below_regrown W0 d os)))
  clear hW B0 B1 B2 B3 B4 B5 B6 B7 B8 B9 BS BW cx cy jA jB jP jQ jR jS hsb x1 x2 x3 x4 x5 x6 x7 x8 x9 x10 hb1 hb2 hb3 hb23 hb4 hb5 hb45 hb35 hJ2 hJ3 HJ2 hbw1 hbw2 hbw3 hbw4 y0 y1 y2 y3 y4 z0 z1 z2 z3 z4 q0 q1 q2 q3 q4 a0 a1 a2 a3 a4 a5 b0 b1 b2 b3 b4 b5 F1 F2 A1 T1 T2 HT HX wa wb rv rw' lv lw txa txb qa qb hc hc' hl hl' ga1 ga2 ga3 ga4 ga5 ga6 ga7 ga8 ga9 gb1 gb2 gb3 gb4 gb5 gb6 gb7 gb8 gb9 cv0 cv1 cv2 cv3 cv4 cv5 cu0 cu1 cu2 cu3 cu4 cu5 cp0 cp1 cp2 cp3 cp4 cp5 cq0 cq1 cq2 cq3 cq4 cq5 cr0 cr1 cr2 cr3 cr4 cr5 cs0 cs1 cs2 cs3 cs4 cs5 RP RR SP SV SR PR PS ls lr lq lp lu
  by_cases hab : na = nb
  · subst hab
    have e1 : (na != na) = false := by simp
    have e2 : (na == na && sb) = sb := by simp
    rw [e1] at cRP
    rw [e2] at cSP
    clear e1 e2
    refine wp_region_quiet_below Dec.mixed (by kernel_rfl) ?_
    repeat (quiet_step (first | with_reducible exact cRP.out _ _ | with_reducible exact cRR.out _ _ | with_reducible exact cSP.out _ _ | with_reducible exact cSV.out _ _ | with_reducible exact cSR.out _ _ | with_reducible exact cPR.out _ _ | with_reducible exact cPS.out _ _))
    refine wpQuiet_nil ?_
    intro _ hw'
    obtain ⟨⟨dq, osq⟩, hw''⟩ := hw'
    subst hw''
    go_wp2_with fail
    go_ret
    exact ⟨by first | rfl | simp, below_step HW.out (below_regrown W0 dq osq)⟩
  · have e1 : (na != nb) = true := by simpa using hab
    have e3 : (na == nb) = false := by simpa using hab
    rw [e1] at cRP
    rw [e3, Bool.false_and] at cSP
    clear e1
    refine wp_region_quiet_below Dec.mixed (by kernel_rfl) ?_
    repeat (quiet_step (first | with_reducible exact cRP.out _ _ | with_reducible exact cRR.out _ _ | with_reducible exact cSP.out _ _ | with_reducible exact cSV.out _ _ | with_reducible exact cSR.out _ _ | with_reducible exact cPR.out _ _ | with_reducible exact cPS.out _ _))
    refine wpQuiet_nil ?_
    intro _ hw'
    obtain ⟨⟨dq, osq⟩, hw''⟩ := hw'
    subst hw''
    go_wp2_with fail
    go_ret
    exact ⟨by first | rfl | simp, below_step HW.out (below_regrown W0 dq osq)⟩
end Go.Proofs.YtnkgkhkkcjebgaaGreatDoor.Js
