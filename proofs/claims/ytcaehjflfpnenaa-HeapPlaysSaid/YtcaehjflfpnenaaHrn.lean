import Derived.Test.YtcaehjflfpnenaaHr1
/- The document's Push, into a heap that never held a thing. -/
set_option linter.unusedVariables false
set_option linter.unusedSimpArgs false
namespace Go.Proofs.Ytcaehjflfpnenaa.Hp
open Go.RowKit

set_option maxHeartbeats 8000000 in
theorem rpush_nil {base : Nat} {w : World} {b : Nat} (h : RfAt base w b (.slice none 0 0) []) (x1 x2 : Int) :
    Calls Try.prog 14 #[.pointer (some ⟨b, 0, none⟩), .int .i64 x1, .int .i64 x2] w (RPushRet base w b [(x1, x2)]) := by
  obtain ⟨Q, HQ⟩ : ∃ Q, Hid (RPushRet base w b [(x1, x2)] = Q) := ⟨_, rfl⟩
  rw [HQ.out]
  have hc := h.get
  have hf := h.thaw
  have hlt := h.lt
  have H := Lib.hid h
  clear h
  have SN : ∀ u : World, Src u (.slice none 0 0) 0 [] := fun u => .inl ⟨rfl, rfl, rfl⟩
  have S1 := Lib.hid SN
  clear SN
  go_enter Try.func14, Try.ntmps14
  go_wp2_with fail
  go_loopw [6] (fun i wr => i = .int .i64 0 ∧ w = wr) (fun i _ => 0)
  case atStart => exact ⟨rfl, rfl⟩
  case round =>
    obtain ⟨rfl, rfl⟩ := hrel
    go_upto_region 3 with fail
    go_region_law (first
      | (refine step_append_src (by rfl) _ _ (by rfl) w.heap.size (.slice none 0 0) 0 [] (by rfl) (World.ownsRow_nil _ _ _ _) (.slice none 0 0) 0 [] (by rfl) (S1.out _) (by omega) (((Below.refl w.heap.size w).drew).size) ?_; intro vaA waA hown1 hgrow1 hat1; rw [Nat.zero_add, List.nil_append] at hown1; have HB1A : Hid (Below w.heap.size w waA) := ((Below.refl w.heap.size w).drew).grown hgrow1 (((Below.refl w.heap.size w).drew).size) (fun k hk => by cases hk); have HO1A := Lib.hid hown1; have k5a := (HB1A.out.cell (p := ⟨b, 0, none⟩) hlt).trans hc; have hla : b < waA.heap.size := Nat.lt_of_lt_of_le hlt HB1A.out.size; clear hown1 hgrow1 hat1)
      | (refine step_append_src (by rfl) _ _ (by rfl) w.heap.size (.slice none 0 0) 0 [] (by rfl) (World.ownsRow_nil _ _ _ _) (.slice none 0 0) 0 [] (by rfl) (S1.out _) (by omega) ((((Below.refl w.heap.size w).alloc (Nat.le_refl _) (Obj.cells #[Value.int IntKind.i64 x1, Value.int IntKind.i64 x2] 32)).drew).size) ?_; intro vaB waB hown1 hgrow1 hat1; rw [Nat.zero_add, List.nil_append] at hown1; have HB1B : Hid (Below w.heap.size w waB) := (((Below.refl w.heap.size w).alloc (Nat.le_refl _) (Obj.cells #[Value.int IntKind.i64 x1, Value.int IntKind.i64 x2] 32)).drew).grown hgrow1 ((((Below.refl w.heap.size w).alloc (Nat.le_refl _) (Obj.cells #[Value.int IntKind.i64 x1, Value.int IntKind.i64 x2] 32)).drew).size) (fun k hk => by cases hk); have HN1 : Hid (waB.heap[w.heap.size]? = some (.cells #[.int .i64 x1, .int .i64 x2] 32 (0, 0))) := (hgrow1.block w.heap.size (by simp) (by simp [Value.ownBlock])).trans (heap_alloc_new w _); have HO1B := Lib.hid hown1; have k5a := (HB1B.out.cell (p := ⟨b, 0, none⟩) hlt).trans hc; have hla : b < waB.heap.size := Nat.lt_of_lt_of_le hlt HB1B.out.size; clear hown1 hgrow1 hat1)
      | (refine step_append_src (by rfl) _ _ (by rfl) w.heap.size vaA 0 [] (by rfl) (HO1A.out.alloc _) (.slice (some ⟨waA.heap.size, 0, none⟩) 1 1) 1 [(x1, x2)] (by rfl) (news1 (x := (x1, x2)) (heap_alloc_new waA _)) (by omega) ((HB1A.out.alloc HB1A.out.size (Obj.cells #[Value.int IntKind.i64 x1, Value.int IntKind.i64 x2] 32)).size) ?_; intro vb wb hown2 hgrow2 hat2; rw [Nat.zero_add, List.nil_append] at hown2; have HB2 : Hid (Below w.heap.size w wb) := (HB1A.out.alloc HB1A.out.size (Obj.cells #[Value.int IntKind.i64 x1, Value.int IntKind.i64 x2] 32)).grown hgrow2 ((HB1A.out.alloc HB1A.out.size (Obj.cells #[Value.int IntKind.i64 x1, Value.int IntKind.i64 x2] 32)).size) (fun k hk => (World.ownsRow.lt HO1A.out k hk).1); have HO2 := Lib.hid hown2; have k5b := (HB2.out.cell (p := ⟨b, 0, none⟩) hlt).trans hc; have hlb : b < wb.heap.size := Nat.lt_of_lt_of_le hlt HB2.out.size; clear hown2 hgrow2 hat2)
      | (refine step_append_src (by rfl) _ _ (by rfl) w.heap.size vaB 0 [] (by rfl) HO1B.out (.slice (some ⟨w.heap.size, 0, none⟩) 1 1) 1 [(x1, x2)] (by rfl) (news1 (x := (x1, x2)) HN1.out) (by omega) (HB1B.out.size) ?_; intro vb wb hown2 hgrow2 hat2; rw [Nat.zero_add, List.nil_append] at hown2; have HB2 : Hid (Below w.heap.size w wb) := HB1B.out.grown hgrow2 (HB1B.out.size) (fun k hk => (World.ownsRow.lt HO1B.out k hk).1); have HO2 := Lib.hid hown2; have k5b := (HB2.out.cell (p := ⟨b, 0, none⟩) hlt).trans hc; have hlb : b < wb.heap.size := Nat.lt_of_lt_of_le hlt HB2.out.size; clear hown2 hgrow2 hat2)
      | (refine step_append_src (by rfl) _ _ (by rfl) w.heap.size vb 1 [(x1, x2)] (by rfl) HO2.out (.slice none 0 0) 0 [] (by rfl) (S1.out _) (by omega) HB2.out.size ?_; intro vc wc hown3 hgrow3 hat3; rw [Nat.add_zero, List.append_nil] at hown3; obtain ⟨aoc, capc, rfl⟩ := row_form hown3; have HB3 : Hid (Below w.heap.size w wc) := HB2.out.grown hgrow3 HB2.out.size (fun k hk => (World.ownsRow.lt HO2.out k hk).1); have HO3 := Lib.hid hown3; have k5 := (HB3.out.cell (p := ⟨b, 0, none⟩) hlt).trans hc; have kf := (HB3.out.frozen (p := ⟨b, 0, none⟩) hlt).trans hf; clear hown3 hgrow3 hat3))
    all_goals
      have HD := Lib.hid (rpush_done (m := 1) (s' := [(x1, x2)]) H.out HB3.out HO3.out rfl (by omega))
      go_wp2_with fail
      go_end0
      rw [← HQ.out]
      exact ⟨rfl, _, HD.out⟩
end Go.Proofs.Ytcaehjflfpnenaa.Hp
