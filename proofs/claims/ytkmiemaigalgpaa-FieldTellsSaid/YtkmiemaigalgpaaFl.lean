import Derived.Test.YtkmiemaigalgpaaFj
/- Layer 5: the chapter's example: awake answers true. -/
set_option linter.unusedVariables false
set_option linter.unusedSimpArgs false
namespace Go.Proofs.Ytkmiemaigalgpaa.Js
open Go.RowKit Lex

def exJ5 : J := .mk 7 0 0 [] [[97]] [.mk 4 5 0 [] [] []]
def exC5 (b : Nat) : Array Value := #[.int .i64 7, .int .i64 0, .int .i64 0, .string ⟨#[]⟩, .slice (some ⟨b, 0, none⟩) 1 1, .slice (some ⟨b + 1, 0, none⟩) 1 1]
structure EX (w w' : World) : Prop where
  bel : Below w.heap.size w w'
  sz : w.heap.size + 3 ≤ w'.heap.size
  jat : JAt Any w' 2 (.agg (exC5 w.heap.size)) exJ5
  box : w'.heap[w.heap.size + 2]? = some (.cells (exC5 w.heap.size) 27 (0, 0))
theorem EX.below {w a b : World} (h : EX w a) (hb : Below a.heap.size a b) : EX w b :=
  ⟨h.bel.trans (hb.mono h.bel.size), Nat.le_trans h.sz hb.size, h.jat.below hb (Nat.le_refl _), (hb.block _ (Own.block_lt h.box)).trans h.box⟩
theorem EX.alloc {w a : World} (h : EX w a) (o : Obj) : EX w (a.alloc o) := h.below (belowOne _ _)
theorem ex5_at (w : World) : EX w (((w.alloc (.cells #[.string ⟨#[97]⟩] 9)).alloc (.cells #[.int .i64 4, .int .i64 5, .int .i64 0, .string ⟨#[]⟩, .slice none 0 0, .slice none 0 0] 27)).alloc (.cells (exC5 w.heap.size) 27)) := by
  have hb : Below w.heap.size w (((w.alloc (.cells #[.string ⟨#[97]⟩] 9)).alloc (.cells #[.int .i64 4, .int .i64 5, .int .i64 0, .string ⟨#[]⟩, .slice none 0 0, .slice none 0 0] 27)).alloc (.cells (exC5 w.heap.size) 27)) := (((Below.refl _ _).alloc (Nat.le_refl _) _).alloc (by simp) _).alloc (by simp; omega) _
  have e1 : (((w.alloc (.cells #[.string ⟨#[97]⟩] 9)).alloc (.cells #[.int .i64 4, .int .i64 5, .int .i64 0, .string ⟨#[]⟩, .slice none 0 0, .slice none 0 0] 27)).alloc (.cells (exC5 w.heap.size) 27)).heap[w.heap.size]? = some (.cells #[.string ⟨#[97]⟩] 9) := by
    rw [Below.heap_alloc _ _ _ (by simp; omega), Below.heap_alloc _ _ _ (by simp)]; exact heap_alloc_new w _
  have e2 : (((w.alloc (.cells #[.string ⟨#[97]⟩] 9)).alloc (.cells #[.int .i64 4, .int .i64 5, .int .i64 0, .string ⟨#[]⟩, .slice none 0 0, .slice none 0 0] 27)).alloc (.cells (exC5 w.heap.size) 27)).heap[w.heap.size + 1]? = some (.cells #[.int .i64 4, .int .i64 5, .int .i64 0, .string ⟨#[]⟩, .slice none 0 0, .slice none 0 0] 27) := by
    rw [Below.heap_alloc _ _ _ (by simp)]; exact two_new w _ _
  have e3 : (((w.alloc (.cells #[.string ⟨#[97]⟩] 9)).alloc (.cells #[.int .i64 4, .int .i64 5, .int .i64 0, .string ⟨#[]⟩, .slice none 0 0, .slice none 0 0] 27)).alloc (.cells (exC5 w.heap.size) 27)).heap[w.heap.size + 2]? = some (.cells (exC5 w.heap.size) 27) := by
    have := heap_alloc_new ((w.alloc (.cells #[.string ⟨#[97]⟩] 9)).alloc (.cells #[.int .i64 4, .int .i64 5, .int .i64 0, .string ⟨#[]⟩, .slice none 0 0, .slice none 0 0] 27)) (.cells (exC5 w.heap.size) 27)
    rw [show ((w.alloc (.cells #[.string ⟨#[97]⟩] 9)).alloc (.cells #[.int .i64 4, .int .i64 5, .int .i64 0, .string ⟨#[]⟩, .slice none 0 0, .slice none 0 0] 27)).heap.size = w.heap.size + 2 by simp] at this
    exact this
  refine ⟨hb, by simp, ?_, e3⟩
  exact jat_one (d := 1) ⟨by decide, by decide⟩ (strs_one (t := [97]) (by unfold txtB; simp) trivial e1) trivial e2 (leaf_jat (d := 0) (t := []) ⟨by decide, by decide⟩ ⟨by decide, by decide⟩ ⟨by decide, by decide⟩ (by unfold txtB; simp))

theorem fds_one {w : World} {b : Nat} {T : TypeId} {fr : Nat × Nat} {f : Fd} (hg : f.good) (hb : w.heap[b]? = some (.cells (fdC f) T fr)) : FdsAt w (.slice (some ⟨b, 0, none⟩) 1 1) [f] :=
  ⟨some ⟨b, 0, none⟩, 1, rfl, by simp, by simp, fun x hx => by simp at hx; subst hx; exact hg, fun _ => ⟨b, 0, rfl, Own.block_lt hb, fun i hi => by
    obtain rfl : i = 0 := by simp at hi; omega
    intro q c hq
    rw [cell_of_row _ _ _ _ _ _ hb]
    simp only [Nat.zero_mul, Nat.zero_add]
    simpa [fdV, fdC, aggC] using hq⟩⟩
def exF1 : Fd := ⟨[97], 4, 1, 9, false⟩
def exF2 : Fd := ⟨[97], 4, 6, 9, false⟩
theorem exF_good : exF1.good ∧ exF2.good := ⟨⟨by unfold txtB exF1; simp, ⟨by decide, by decide⟩, ⟨by decide, by decide⟩, ⟨by decide, by decide⟩⟩, ⟨by unfold txtB exF2; simp, ⟨by decide, by decide⟩, ⟨by decide, by decide⟩, ⟨by decide, by decide⟩⟩⟩
theorem ex_told : tellG (0 : Int) numS exJ5 [97] = (5, true) ∧ tellG ([] : List UInt8) txtS exJ5 [97] = ([], false) ∧ chkL exJ5 [exF1] 0 = -1 ∧ chkL exJ5 [exF2] 0 = 0 := by decide
theorem ex_int : (intJ 5).k = 4 ∧ (intJ 5).m = 5 ∧ (intJ 5).e = 0 := by
  have h : Dec.mk 5 0 = (5, 0, true) := by
    unfold Dec.mk
    rw [Dec.strip]
    decide
  unfold intJ
  rw [h]
  exact ⟨rfl, rfl, rfl⟩
theorem fds_ex1 (w : World) : FdsAt (w.alloc (.cells #[.string ⟨#[97]⟩, .int .i64 4, .int .i64 1, .int .i64 9, .bool false] 50)) (.slice (some ⟨w.heap.size, 0, none⟩) 1 1) [exF1] := fds_one exF_good.1 (heap_alloc_new _ _)
theorem fds_ex2 (w : World) : FdsAt (w.alloc (.cells #[.string ⟨#[97]⟩, .int .i64 4, .int .i64 6, .int .i64 9, .bool false] 50)) (.slice (some ⟨w.heap.size, 0, none⟩) 1 1) [exF2] := fds_one exF_good.2 (heap_alloc_new _ _)

theorem fieldJ0 (k m e : Int) (t : ByteArray) (nv iv : Value) (w : World) : (Instr.field 27 (.agg #[.int .i64 k, .int .i64 m, .int .i64 e, .string t, nv, iv]) 0).run Try.prog w = .ok (.int .i64 k) w := by kernel_rfl
theorem fieldJ1 (k m e : Int) (t : ByteArray) (nv iv : Value) (w : World) : (Instr.field 27 (.agg #[.int .i64 k, .int .i64 m, .int .i64 e, .string t, nv, iv]) 1).run Try.prog w = .ok (.agg #[.int .i64 m, .int .i64 e]) w := by kernel_rfl
theorem fieldJ2 (k m e : Int) (t : ByteArray) (nv iv : Value) (w : World) : (Instr.field 27 (.agg #[.int .i64 k, .int .i64 m, .int .i64 e, .string t, nv, iv]) 2).run Try.prog w = .ok (.string t) w := by kernel_rfl
theorem fieldD0 (m e : Int) (w : World) : (Instr.field 23 (.agg #[.int .i64 m, .int .i64 e]) 0).run Try.prog w = .ok (.int .i64 m) w := by kernel_rfl
set_option maxHeartbeats 4000000 in
set_option maxRecDepth 100000 in
theorem awake5_any (w : World) : Calls Try.prog 4 #[] w (Ret (.bool true) w) := by
  have NU := Lib.hid (fun (w' : World) (h : EX w w') => FNum_any Any 2 _ exJ5 [97] w' h.jat)
  rw [ex_told.1] at NU
  have TX := Lib.hid (fun (w' : World) (h : EX w w') => FText_any Any 2 _ exJ5 [97] w' h.jat)
  rw [ex_told.2.1] at TX
  have C1 := Lib.hid (fun (w' : World) (h : EX w w') => check_any Any 2 _ exJ5 _ [exF1] _ (h.alloc _).jat (fds_ex1 w'))
  rw [ex_told.2.2.1] at C1
  have C2 := Lib.hid (fun (w' : World) (h : EX w w') => check_any Any 2 _ exJ5 _ [exF2] _ (h.alloc _).jat (fds_ex2 w'))
  rw [ex_told.2.2.2] at C2
  have IN := Lib.hid (fun (w' : World) => int5_any 5 w' (by decide) (by decide))
  rw [ex_int.1, ex_int.2.1, ex_int.2.2] at IN
  have SR := Lib.hid (fun (w' : World) => str5_any [120] w')
  have YE := Lib.hid (fun (w' : World) => yes_any true w')
  have E0 := Lib.hid (ex5_at w)
  unfold bareV at IN SR YE
  have f0 := fieldJ0
  have f1 := fieldJ1
  have f2 := fieldJ2
  have f3 := fieldD0
  unfold exC5 at NU TX C1 C2 E0
  go_enter Try.func4, Try.ntmps4
  go_wp2_with (first
    | (go_at_call 10; (with_reducible refine (NU.out _ E0.out).mono ?_); rintro e1 w1 ⟨rfl, hb1⟩; have E1 := Lib.hid (E0.out.below hb1); obtain ⟨x0, x1, x2, x3, x4, x5⟩ := six_of E1.out.box)
    | (go_at_call 12; (with_reducible refine (TX.out _ E1.out).mono ?_); rintro e2 w2 ⟨rfl, hb2⟩; have E2 := Lib.hid (E1.out.below hb2); obtain ⟨y0, y1, y2, y3, y4, y5⟩ := six_of E2.out.box; have hl2 := Own.block_lt E2.out.box)
    | (go_at_call 19; (with_reducible refine (C1.out _ E2.out).mono ?_); rintro e3 w3 ⟨rfl, hb3⟩; have E3 := Lib.hid ((E2.out.alloc _).below hb3); obtain ⟨z0, z1, z2, z3, z4, z5⟩ := six_of E3.out.box; have hl3 := Own.block_lt E3.out.box)
    | (go_at_call 19; (with_reducible refine (C2.out _ E3.out).mono ?_); rintro e4 w4 ⟨rfl, hb4⟩; have E4 := Lib.hid ((E3.out.alloc _).below hb4))
    | (go_at_call 23; (with_reducible refine (SR.out _).mono ?_); rintro e5 w5 ⟨rfl, hb5⟩; have E5 := Lib.hid (E4.out.below hb5))
    | (go_at_call 25; (with_reducible refine (YE.out _).mono ?_); rintro e6 w6 ⟨rfl, hb6⟩; have E6 := Lib.hid (E5.out.below hb6))
    | (go_at_call 21; (with_reducible refine (IN.out _).mono ?_); rintro e7 w7 ⟨rfl, hb7⟩; have E7 := Lib.hid (E6.out.below hb7)))
  go_ret
  exact ⟨rfl, E7.out.bel⟩
end Go.Proofs.Ytkmiemaigalgpaa.Js
