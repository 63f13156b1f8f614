import Derived.Test.YtmlpefpjemiccaaGreatDoorRd7
/- The contract of object. -/
set_option linter.unusedVariables false
set_option linter.unusedSimpArgs false
namespace Go.Proofs.YtmlpefpjemiccaaGreatDoor.Js
open Go.RowKit Lex

theorem alloc6 (w : World) (o1 o2 o3 o4 o5 o6 : Obj) : ((((((w.alloc o1).alloc o2).alloc o3).alloc o4).alloc o5).alloc o6).heap[w.heap.size]? = some o1 ∧ ((((((w.alloc o1).alloc o2).alloc o3).alloc o4).alloc o5).alloc o6).heap[w.heap.size + 1]? = some o2 ∧
    ((((((w.alloc o1).alloc o2).alloc o3).alloc o4).alloc o5).alloc o6).heap[w.heap.size + 2]? = some o3 ∧ ((((((w.alloc o1).alloc o2).alloc o3).alloc o4).alloc o5).alloc o6).heap[w.heap.size + 3]? = some o4 ∧
    ((((((w.alloc o1).alloc o2).alloc o3).alloc o4).alloc o5).alloc o6).heap[w.heap.size + 4]? = some o5 ∧ ((((((w.alloc o1).alloc o2).alloc o3).alloc o4).alloc o5).alloc o6).heap[w.heap.size + 5]? = some o6 ∧ ((((((w.alloc o1).alloc o2).alloc o3).alloc o4).alloc o5).alloc o6).heap.size = w.heap.size + 6 := by
  obtain ⟨e1, e2, e3, e4, e5⟩ := alloc4 w o1 o2 o3 o4
  generalize (((w.alloc o1).alloc o2).alloc o3).alloc o4 = W at *
  have n5 : (W.alloc o5).heap[w.heap.size + 4]? = some o5 := by rw [← e5]; exact heap_alloc_new W o5
  have n6 : ((W.alloc o5).alloc o6).heap[w.heap.size + 5]? = some o6 := by
    have := heap_alloc_new (W.alloc o5) o6
    rwa [show (W.alloc o5).heap.size = w.heap.size + 5 by simp; omega] at this
  have old : ∀ b, b < W.heap.size → ((W.alloc o5).alloc o6).heap[b]? = W.heap[b]? := fun b hb => (Below.heap_alloc _ _ _ (by simp; omega)).trans (Below.heap_alloc _ _ _ hb)
  refine ⟨?_, ?_, ?_, ?_, ?_, n6, by simp; omega⟩
  · rw [old _ (by omega)]; exact e1
  · rw [old _ (by omega)]; exact e2
  · rw [old _ (by omega)]; exact e3
  · rw [old _ (by omega)]; exact e4
  · rw [Below.heap_alloc _ _ _ (by simp; omega)]; exact n5
theorem ObjI.chgR {lo base br bd bres bv bs sb rb bt n : Nat} {st : List (List UInt8) × List J} {w w' : World} (h : ObjI lo base br bd bres bv bs sb rb bt n st w) (hc : Chg (· = rb) w w') : ObjI lo base br bd bres bv bs sb rb bt n st w' := by
  obtain ⟨hF, hbs, hset, ⟨nv, iv, vs, hO⟩, hlen, hb, ⟨l1, l2, l3, l4⟩, hne⟩ := h
  obtain ⟨a1, a2, a3, a4, a5, a6⟩ := hF.low
  obtain ⟨b1, b2, b3, b4, b5⟩ := hF.high
  exact ⟨hF.chgR hc, (hc.block bs (Own.block_lt hbs) (by omega)).trans hbs, hset.chg hc (by omega), ⟨nv, iv, vs, hO.chgR hc (by omega) (by omega)⟩, hlen, hb, ⟨l1, l2, l3, l4⟩, hne⟩

set_option maxHeartbeats 4000000 in
set_option maxRecDepth 100000 in
theorem object_any (n : Nat) (hn : n ≤ 15) (hv : ValOk n) (w : World) (rb bt cap : Nat) (ts l : List Tok) (hR : Rd w rb bt cap ts l) :
    Calls Tryz.prog 49 #[.pointer (some ⟨rb, 0, none⟩), .int .i64 ((16 - n : Nat) : Int)] w (VRet w rb bt cap ts (n + 1) (objS (valS n) l)) := by
  obtain ⟨x, l1, rfl⟩ := ex_cons hR.fin
  obtain ⟨e1, e2, e3, e4, e5, e6, e7⟩ := alloc6 w (.cells #[.pointer (some ⟨rb, 0, none⟩)] 86 (0, 0)) (.cells #[.int .i64 ((16 - n : Nat) : Int)] 3 (0, 0)) (.cells zero6 27 (0, 0)) (.cells #[.int .i64 7, .int .i64 0, .int .i64 0, .string ⟨#[]⟩, .slice none 0 0, .slice none 0 0] 27 (0, 0)) (.map #[] 0) (.cells #[.map (some (w.heap.size + 4))] 103 (0, 0))
  have hmf : ∀ (fn : Fn) (first cap : Array Value) (w : World), (Instr.makeFunc fn first cap).run Tryz.prog w = .ok (.func fn first cap) w := fun _ _ _ _ => rfl
  have hmm := @run_makeMap Tryz.prog
  have hbel : ∀ o1 o2 o3 o4 o5 o6, Below w.heap.size w ((((((w.alloc o1).alloc o2).alloc o3).alloc o4).alloc o5).alloc o6) := fun o1 o2 o3 o4 o5 o6 => ((((((Below.refl _ _).alloc (Nat.le_refl _) _).alloc (by simp) _).alloc (by simp; omega) _).alloc (by simp; omega) _).alloc (by simp; omega) _).alloc (by simp; omega) _
  have HBEL := Lib.hid hbel
  have hrl := hR.lt
  have htl := hR.blt
  have HR := Lib.hid hR
  have hF0 : Fr w.heap.size (w.heap.size + 6) w.heap.size (w.heap.size + 1) (w.heap.size + 2) (w.heap.size + 3) rb bt n ((((((w.alloc (.cells #[.pointer (some ⟨rb, 0, none⟩)] 86 (0, 0))).alloc (.cells #[.int .i64 ((16 - n : Nat) : Int)] 3 (0, 0))).alloc (.cells zero6 27 (0, 0))).alloc (.cells #[.int .i64 7, .int .i64 0, .int .i64 0, .string ⟨#[]⟩, .slice none 0 0, .slice none 0 0] 27 (0, 0))).alloc (.map #[] 0)).alloc (.cells #[.map (some (w.heap.size + 4))] 103 (0, 0))) :=
    ⟨e1, e2, e3, ⟨hrl, htl, by omega, by omega, by omega, by omega⟩, ⟨by omega, by omega, by omega, by omega, by omega⟩, ⟨by omega, by omega, by omega⟩⟩
  have hset0 : SetIs ((((((w.alloc (.cells #[.pointer (some ⟨rb, 0, none⟩)] 86 (0, 0))).alloc (.cells #[.int .i64 ((16 - n : Nat) : Int)] 3 (0, 0))).alloc (.cells zero6 27 (0, 0))).alloc (.cells #[.int .i64 7, .int .i64 0, .int .i64 0, .string ⟨#[]⟩, .slice none 0 0, .slice none 0 0] 27 (0, 0))).alloc (.map #[] 0)).alloc (.cells #[.map (some (w.heap.size + 4))] 103 (0, 0))) (w.heap.size + 4) [] := by
    have h0 := set_new ((((w.alloc (.cells #[.pointer (some ⟨rb, 0, none⟩)] 86 (0, 0))).alloc (.cells #[.int .i64 ((16 - n : Nat) : Int)] 3 (0, 0))).alloc (.cells zero6 27 (0, 0))).alloc (.cells #[.int .i64 7, .int .i64 0, .int .i64 0, .string ⟨#[]⟩, .slice none 0 0, .slice none 0 0] 27 (0, 0)))
    rw [(alloc4 w _ _ _ _).2.2.2.2] at h0
    exact h0.keep (Below.heap_alloc _ _ _ h0.lt)
  have hI0 : ObjI w.heap.size (w.heap.size + 6) w.heap.size (w.heap.size + 1) (w.heap.size + 2) (w.heap.size + 3) (w.heap.size + 5) (w.heap.size + 4) rb bt n ([], []) _ := ⟨hF0, e6, hset0, ⟨_, _, _, own2_new e4⟩, rfl, by simp, ⟨by omega, by omega, by omega, by omega⟩, ⟨by omega, by omega, by omega, by omega, by omega, by omega⟩⟩
  have HI0 := Lib.hid hI0
  have hlen : 0 + (x :: l1).length ≤ ts.length := by have := hR.suf.length_le; omega
  have hcnt : ∀ (st : List (List UInt8) × List J) (l : List Tok), (stepO n st l).2.1.1.length ≤ st.1.length + 1 := fun st l => by unfold stepO; split <;> simp
  have U := Lib.hid (until_obj (σ := List (List UInt8) × List J) #[.pointer (some ⟨w.heap.size, 0, none⟩), .pointer (some ⟨w.heap.size + 5, 0, none⟩), .pointer (some ⟨w.heap.size + 1, 0, none⟩), .pointer (some ⟨w.heap.size + 3, 0, none⟩)] (XO (w.heap.size + 6) (w.heap.size + 3) (w.heap.size + 4) rb) (ObjI w.heap.size (w.heap.size + 6) w.heap.size (w.heap.size + 1) (w.heap.size + 2) (w.heap.size + 3) (w.heap.size + 5) (w.heap.size + 4) rb bt n)
    (fun w' => Fr w.heap.size (w.heap.size + 6) w.heap.size (w.heap.size + 1) (w.heap.size + 2) (w.heap.size + 3) rb bt n w' ∧ Loads (w.heap.size + 3) 7 w') (stepO n) (fun st => st.1.length) hcnt rb bt cap ts 125 ⟨#[125]⟩ rfl (.inl rfl)
    (obj1_step n hn hv _ _ _ _ _ _ _ _ rb bt cap ts) (fun st w w' h hc => h.chgR hc) (fun w1 w2 h hc => ⟨h.1.chgR hc, h.2.chg hc (by omega)⟩) (fun st w h => ⟨h.fr, by obtain ⟨nv, iv, vs, hO⟩ := h.own; exact hO.loads⟩)
    ([], []) x l1 _ HI0.out (hR.below (HBEL.out _ _ _ _ _ _)) hlen)
  have HRES : Hid (objS (valS n) (x :: l1) = ⟨(if sgB x 125 = true then (0, ([], []), l1) else untilS (stepO n) 125 (x :: l1).length ([], []) (x :: l1)).1, if (if sgB x 125 = true then ((0 : Int), (([], []) : List (List UInt8) × List J), l1) else untilS (stepO n) 125 (x :: l1).length ([], []) (x :: l1)).1 = 0 then .mk 7 0 0 [] (if sgB x 125 = true then (0, ([], []), l1) else untilS (stepO n) 125 (x :: l1).length ([], []) (x :: l1)).2.1.1 (if sgB x 125 = true then (0, ([], []), l1) else untilS (stepO n) 125 (x :: l1).length ([], []) (x :: l1)).2.1.2 else j0, (if sgB x 125 = true then (0, ([], []), l1) else untilS (stepO n) 125 (x :: l1).length ([], []) (x :: l1)).2.2⟩) := by
    show _ = _
    unfold objS
    dsimp only
    by_cases h : sgB x 125 = true
    · simp [h]
    · simp only [if_neg h]
      exact obj_until n _ _ _ _
  obtain ⟨RR, HRR⟩ : ∃ RR, Hid (objS (valS n) (x :: l1) = RR) := ⟨_, rfl⟩
  have HRQ := Lib.hid (HRR.out.symm.trans HRES.out)
  rw [HRR.out]
  clear HRES HRR hR hI0 hF0 hbel hlen e1 e2 e3 e4 e5 e6 e7 hset0 hcnt
  simp only at U
  generalize (if sgB x 125 = true then ((0 : Int), (([], []) : List (List UInt8) × List J), l1) else untilS (stepO n) 125 (x :: l1).length ([], []) (x :: l1)) = Q at *
  obtain ⟨E, ⟨ns, acc⟩, l2⟩ := Q
  simp only at U HRQ
  unfold zero6 at U
  generalize ((16 - n : Nat) : Int) = D at *
  go_enter Tryz.func49, Tryz.ntmps49
  go_wp2_with (go_at_call 73; (with_reducible refine (U.out).mono ?_); rintro e1 w1 ⟨rfl, hR1, hc1, hI1, hF1, hL1⟩; have HI1 := Lib.hid hI1; clear hI1; obtain ⟨a, nn, c, a', nn', c', hL⟩ := hL1; obtain ⟨y0, y1, y2, y3, y4, y5⟩ := six_of hL; obtain ⟨z0, z1, z2, z3, z4, z5⟩ := six_of hF1.hres; have f0 := free_of hF1.hres 0; have f1 := free_of hF1.hres 1; have f2 := free_of hF1.hres 2; have f3 := free_of hF1.hres 3; have f4 := free_of hF1.hres 4; have f5 := free_of hF1.hres 5)
  refine bodyPost_ret (v := .tuple #[.agg #[.int .i64 7, .int .i64 0, .int .i64 0, .string ⟨#[]⟩, .slice a nn c, .slice a' nn' c'], .int .i64 E]) (by simp [results, Tryz.results49, go_sem, z0, z1, z2, z3, z4, z5]) rfl ?_
  have hER : RR.er = E := by rw [HRQ.out]
  have hlR : l2 = RR.l := by rw [HRQ.out]
  rw [hlR] at hR1
  have hJ : E = 0 → JAt (fun b => w.heap.size + 6 ≤ b) w1 (n + 1) (.agg #[.int .i64 7, .int .i64 0, .int .i64 0, .string ⟨#[]⟩, .slice a nn c, .slice a' nn' c']) RR.j := fun h0 => by
    obtain ⟨_, _, _, ⟨nv, iv, vs, hO⟩, hll, hbn, _, _⟩ := HI1.out h0
    have := hO.jat ⟨by decide, by decide⟩ hbn (by rw [← hll]; exact hbn)
    have hb := hO.blk
    rw [hL] at hb
    simp only [Option.some.injEq, Obj.cells.injEq, and_true, Array.mk.injEq, List.cons.injEq, true_and] at hb
    obtain ⟨e1, e2⟩ := hb
    rw [← e2, ← e1] at this
    rw [HRQ.out, if_pos h0]
    exact this
  exact vret_fin (bres := w.heap.size + 2) (HBEL.out _ _ _ _ _ _) (fun b hb hx => by unfold XO at hx; omega) hc1 hR1 (by omega) (by omega) hrl htl hER (by omega) hJ _ _ _ _ _ _
end Go.Proofs.YtmlpefpjemiccaaGreatDoor.Js
