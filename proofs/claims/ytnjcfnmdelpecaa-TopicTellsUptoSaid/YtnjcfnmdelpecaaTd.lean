import Derived.Test.YtnjcfnmdelpecaaTc
/- Layer 7: the contract of Match. -/
set_option linter.unusedVariables false
set_option linter.unusedSimpArgs false
namespace Go.Proofs.Ytnjcfnmdelpecaa.Tp
open Go.RowKit Go.Shelf
attribute [local go_sem] Oper.semAt_some

/-- A cell that holds a value, and may be written. -/
def Holds (W : World) (b : Nat) (v : Value) : Prop := W.cell? ⟨b, 0, none⟩ = some v ∧ W.frozen? ⟨b, 0, none⟩ = false
theorem Holds.kept {W W' : World} {b : Nat} {v : Value} {row : Option Nat} (h : Holds W b v) (hg : W.grownBy W' row) (hr : ∀ r, row = some r → ∃ o : Obj, W.heap[r]? = some o ∧ o.isCells = false) : Holds W' b v :=
  ⟨cell_kept h.1 hg hr, (frozen_kept h.1 hg hr).trans h.2⟩
theorem Holds.drewN {W : World} {b : Nat} {v : Value} (h : Holds W b v) (n : Nat) : Holds (W.drewN n) b v := h
theorem Holds.set {W : World} {b : Nat} {v : Value} (h : Holds W b v) (v' : Value) : Holds (W.setCell ⟨b, 0, none⟩ v') b v' :=
  ⟨World.cell?_setCell_same' _ _ _ (by rw [h.1]; rfl), by rw [World.frozen?_setCell]; exact h.2⟩
theorem Holds.other {W : World} {b c : Nat} {v : Value} (h : Holds W b v) (hn : b ≠ c) (v' : Value) : Holds (W.setCell ⟨c, 0, none⟩ v') b v :=
  ⟨by rw [World.cell?_setCell_other _ _ _ _ (by simp [hn])]; exact h.1, by rw [World.frozen?_setCell]; exact h.2⟩
theorem Holds.alloc {W : World} {b : Nat} {v : Value} (h : Holds W b v) (o : Obj) : Holds (W.alloc o) b v := h.kept (World.grownBy_alloc W o none) (fun r e => by cases e)
theorem Holds.new (W : World) (v : Value) (t : TypeId) : Holds (W.alloc (.cells #[v] t)) W.heap.size v := ⟨by simp, by simp⟩

theorem KeepsD (W : World) (n : Nat) : KeepsOthers W (W.drewN n) := ⟨Nat.le_refl _, fun _ _ h _ => h⟩
theorem below_dN {B : Nat} {a w : World} (h : Below B a w) (q : Nat) : Below B a (w.drewN q) := ⟨h.os, h.tape, h.output, h.size, h.block⟩
/-- Between two of a filter's parts: what is left of the name. -/
def MI (z : List UInt8) (b : Nat) (pre : List (List UInt8 × Bool)) (W : World) : Prop :=
  ∃ r m, mrun pre (partsL z) = .inr (remS r m) ∧ r.length ≤ reachN ∧ Holds W b (.bool false) ∧ Holds W (b + 1) (.string ⟨r.toArray⟩) ∧ Holds W (b + 1 + 1) (.bool m)
/-- It has been told. -/
def MX (z : List UInt8) (b : Nat) (c : Code) (pre : List (List UInt8 × Bool)) (W : World) : Prop :=
  c = .ret ∧ ∃ a, mrun pre (partsL z) = .inl a ∧ Holds W b (.bool a)
theorem mstep_hash (n : List (List UInt8)) : mstep n ([35], true) = .inl true := if_pos ⟨rfl, rfl⟩
theorem mstep_end {p : List UInt8} {la : Bool} (h : ¬ (la = true ∧ p = [35])) : mstep [] (p, la) = .inl false := by
  unfold mstep
  rw [if_neg h, if_pos rfl]
theorem rem_cut (r : List UInt8) : remS r true = (cutS r).1 :: remS (cutS r).2.1 (cutS r).2.2 := by
  have := congrArg (List.map (·.1)) (tag_cut r)
  rw [tagL_fst, List.map_cons, tagL_fst] at this
  exact this
theorem mstep_on {p : List UInt8} {la : Bool} (r : List UInt8) (h : ¬ (la = true ∧ p = [35])) (h2 : p = [43] ∨ p = (cutS r).1) : mstep (remS r true) (p, la) = .inr (remS (cutS r).2.1 (cutS r).2.2) := by
  unfold mstep
  rw [rem_cut, if_neg h, if_neg (by simp), List.headD_cons, List.tail_cons, if_pos h2]
theorem mstep_off {p : List UInt8} {la : Bool} (r : List UInt8) (h : ¬ (la = true ∧ p = [35])) (h2 : ¬ (p = [43] ∨ p = (cutS r).1)) : mstep (remS r true) (p, la) = .inl false := by
  unfold mstep
  rw [rem_cut, if_neg h, if_neg (by simp), List.headD_cons, if_neg h2]

set_option maxRecDepth 100000 in
set_option maxHeartbeats 2000000 in
theorem Match_any (f z : List UInt8) (w : World) (hf : f.length ≤ reachN) (hz : z.length ≤ reachN) :
    Calls Try.prog 19 #[.string ⟨f.toArray⟩, .string ⟨z.toArray⟩] w (Ret (.bool (matchS f z)) w) := by
  refine (callsIn_wide (n := 6)).1 ?_
  refine callsIn_of_wp_marks Try.func19 rfl trivial ?_ rfl
  simp only [Try.ntmps19, List.size_toArray, List.length_cons, List.length_nil, Nat.reduceAdd, Nat.reduceSub, Array.replicate_succ, Array.replicate_zero, List.push_toArray, List.append_toArray, List.nil_append, List.cons_append]
  gi_wp2_with (refine ⟨trivial, ?_⟩; gi_at_call 24; refine (callsIn_wide.2 (parts_any _ _)).mono ?_; rintro e w' ⟨rfl, rfl⟩)
  have H0 := (((Holds.new w (.bool false) 4).alloc (.cells #[.string ⟨z.toArray⟩] 9)).alloc (.cells #[.bool true] 4)).alloc (.cells #[.string ⟨f.toArray⟩] 9)
  have H1 := ((Holds.new (w.alloc (.cells #[.bool false] 4)) (.string ⟨z.toArray⟩) 9).alloc (.cells #[.bool true] 4)).alloc (.cells #[.string ⟨f.toArray⟩] 9)
  have H2 := (Holds.new ((w.alloc (.cells #[.bool false] 4)).alloc (.cells #[.string ⟨z.toArray⟩] 9)) (.bool true) 4).alloc (.cells #[.string ⟨f.toArray⟩] 9)
  have H3 := Holds.new (((w.alloc (.cells #[.bool false] 4)).alloc (.cells #[.string ⟨z.toArray⟩] 9)).alloc (.cells #[.bool true] 4)) (.string ⟨f.toArray⟩) 9
  simp only [World.size_alloc] at H0 H1 H2 H3
  have hB0 : Below w.heap.size w ((((w.alloc (.cells #[.bool false] 4)).alloc (.cells #[.string ⟨z.toArray⟩] 9)).alloc (.cells #[.bool true] 4)).alloc (.cells #[.string ⟨f.toArray⟩] 9)) :=
    ((((Below.refl _ w).alloc (Nat.le_refl _) _).alloc (by simp) _).alloc (by simp; omega) _).alloc (by simp; omega) _
  refine wpIn_rangeFunc_ownF (by rfl) (by omega) (gf := 28) (lb := #[.pointer (some ⟨w.heap.size + 1 + 1 + 1, 0, none⟩)]) rfl trivial (enters_of Try.func28 (by kernel_rfl) rfl)
    (parts_stops _ (by omega) (w.heap.size + 1 + 1 + 1) f hf _ (by simp) H3.1) (fun _ _ => trivial) (fun _ _ _ _ _ _ _ _ => trivial) (Below.refl _ _) (fun _ => rfl)
    (fun pre W => MI z w.heap.size pre W ∧ Below w.heap.size w W)
    (fun c pre W => MX z w.heap.size c pre W ∧ Below w.heap.size w W)
    (OwnFrom.and (Own.from (fun s A B row hs hg hr => by obtain ⟨r, m, h1, h2, h3, h4, h5⟩ := hs; exact ⟨r, m, h1, h2, h3.kept hg hr, h4.kept hg hr, h5.kept hg hr⟩) _) (ownFrom_below (Nat.le_refl _) (by simp; omega)))
    (fun c => OwnFrom.and (Own.from (fun s A B row hs hg hr => by obtain ⟨h1, a, h2, h3⟩ := hs; exact ⟨h1, a, h2, h3.kept hg hr⟩) _) (ownFrom_below (Nat.le_refl _) (by simp; omega)))
    ⟨⟨z, true, rfl, hz, H0, H1, H2⟩, hB0⟩
    (fun x => { tmps := #[.string ⟨f.toArray⟩, .string ⟨z.toArray⟩, undef, undef, .pointer (some ⟨w.heap.size, 0, none⟩), .pointer (some ⟨w.heap.size + 1, 0, none⟩), .pointer (some ⟨w.heap.size + 1 + 1, 0, none⟩), .string ⟨x.1.toArray⟩, .bool x.2, undef, .string ⟨z.toArray⟩, .string ⟨f.toArray⟩, .func (.func 28) #[] #[.pointer (some ⟨w.heap.size + 1 + 1 + 1, 0, none⟩)], .string ⟨x.1.toArray⟩, .bool x.2, undef, undef, undef, undef, undef, undef, undef, undef, undef, undef, undef, undef, undef, undef, undef, undef, undef, undef, undef, undef, undef, undef], defers := [] }) ?assign ?body ?done ?stop
  case assign =>
    intro l x W K hK
    gi_wp2
    exact hK
  case body =>
    rintro l pre ⟨p, la⟩ W ⟨⟨r, m, HR, HL, hH0, hH1, hH2⟩, hB⟩ _
    obtain ⟨c0, f0⟩ := hH0
    obtain ⟨c1, f1⟩ := hH1
    obtain ⟨c2, f2⟩ := hH2
    have HS := Lib.hid (mrun_snoc (p, la) HR)
    have HBB := Lib.hid hB
    have HLL := Lib.hid HL
    clear HR hB HL H0 H1 H2 H3 hB0 hf hz
    by_cases hA : la = true ∧ p = [35]
    · obtain ⟨rfl, rfl⟩ := hA
      rw [mstep_hash] at HS
      have t1 : ((⟨([35] : List UInt8).toArray⟩ : ByteArray).toList == [35]) = true := kd_yes [35] rfl
      dsimp only
      generalize (⟨([35] : List UInt8).toArray⟩ : ByteArray) = P at *
      gi_wp2
      exact ⟨KeepsOthers.setCell _ _ _, ⟨rfl, true, HS.out, Holds.set ⟨c0, f0⟩ _⟩, HBB.out.setCell (p := ⟨w.heap.size, 0, none⟩) (Nat.le_refl _) _⟩
    · have t0 : la = false ∨ (la = true ∧ ((⟨p.toArray⟩ : ByteArray).toList == [35]) = false) := by
        cases la with
        | false => exact .inl rfl
        | true => exact .inr ⟨rfl, kd_no [35] (fun e => hA ⟨rfl, e⟩)⟩
      dsimp only
      cases m with
      | false =>
        rw [remS_no, mstep_end hA] at HS
        clear hA
        generalize (⟨p.toArray⟩ : ByteArray) = P at *
        rcases t0 with rfl | ⟨rfl, t1⟩
        all_goals gi_wp2
        all_goals exact ⟨KeepsOthers.setCell _ _ _, ⟨rfl, false, HS.out, Holds.set ⟨c0, f0⟩ _⟩, HBB.out.setCell (p := ⟨w.heap.size, 0, none⟩) (Nat.le_refl _) _⟩
      | true =>
        have C := Lib.hid (fun u => Cut_any r u HLL.out)
        have HQ := Lib.hid (cut_len r)
        by_cases h2 : p = [43] ∨ p = (cutS r).1
        · rw [mstep_on r hA h2] at HS
          clear hA
          have t2 : ((⟨p.toArray⟩ : ByteArray).toList == [43]) = true ∨ (((⟨p.toArray⟩ : ByteArray).toList == [43]) = false ∧ ((⟨p.toArray⟩ : ByteArray).toList == (⟨(cutS r).1.toArray⟩ : ByteArray).toList) = true) := by
            by_cases e : p = [43]
            · exact .inl (kd_yes _ e)
            · exact .inr ⟨kd_no _ e, by rw [h2.resolve_left e]; simp⟩
          clear h2
          generalize cutS r = x at *
          obtain ⟨here, r2, m2⟩ := x
          unfold cutV at C
          dsimp only at C HS HQ t2
          have HS' : Hid (mrun (pre ++ [(p, la)]) (partsL z) = Sum.inr (remS r2 m2)) := HS
          clear HS
          generalize (⟨p.toArray⟩ : ByteArray) = P at *
          generalize (⟨here.toArray⟩ : ByteArray) = E at *
          rcases t0 with rfl | ⟨rfl, t1⟩
          all_goals rcases t2 with t2 | ⟨t2, t3⟩
          all_goals gi_wp2_with (refine ⟨trivial, ?_⟩; gi_at_call 27; refine (CallsIn.inRound l (callsIn_wide.2 (C.out _))).mono ?_; rintro e w1 ⟨rfl, nq, rfl⟩)
          all_goals exact ⟨((KeepsD _ _).trans (KeepsOthers.setCell _ _ _)).trans (KeepsOthers.setCell _ _ _), trivial, ⟨r2, m2, HS'.out, Nat.le_trans HQ.out HLL.out, ((Holds.drewN ⟨c0, f0⟩ nq).other (by omega) _).other (by omega) _, ((Holds.drewN ⟨c1, f1⟩ nq).set _).other (by omega) _, ((Holds.drewN ⟨c2, f2⟩ nq).other (by omega) _).set _⟩, ((below_dN HBB.out nq).setCell (p := ⟨w.heap.size + 1, 0, none⟩) (by simp) _).setCell (p := ⟨w.heap.size + 1 + 1, 0, none⟩) (by simp; omega) _⟩
        · rw [mstep_off r hA h2] at HS
          clear hA
          have t2 := kd_no [43] (fun e => h2 (.inl e))
          have t3 := str_ne (fun e => h2 (.inr e))
          clear h2
          generalize cutS r = x at *
          obtain ⟨here, r2, m2⟩ := x
          unfold cutV at C
          dsimp only at C HS HQ t2 t3
          generalize (⟨p.toArray⟩ : ByteArray) = P at *
          generalize (⟨here.toArray⟩ : ByteArray) = E at *
          rcases t0 with rfl | ⟨rfl, t1⟩
          all_goals gi_wp2_with (refine ⟨trivial, ?_⟩; gi_at_call 27; refine (CallsIn.inRound l (callsIn_wide.2 (C.out _))).mono ?_; rintro e w1 ⟨rfl, nq, rfl⟩)
          all_goals exact ⟨(((KeepsD _ _).trans (KeepsOthers.setCell _ _ _)).trans (KeepsOthers.setCell _ _ _)).trans (KeepsOthers.setCell _ _ _), ⟨rfl, false, HS.out, (((Holds.drewN ⟨c0, f0⟩ nq).other (by omega) _).other (by omega) _).set _⟩, (((below_dN HBB.out nq).setCell (p := ⟨w.heap.size + 1, 0, none⟩) (by simp) _).setCell (p := ⟨w.heap.size + 1 + 1, 0, none⟩) (by simp; omega) _).setCell (p := ⟨w.heap.size, 0, none⟩) (Nat.le_refl _) _⟩
  case done =>
    rintro D ys W hD rfl ⟨⟨r, m, HR, HL, ⟨c0, f0⟩, ⟨c1, f1⟩, ⟨c2, f2⟩⟩, hB⟩ hK
    have HV : Hid (matchS f z = !m) := by
      show _ = _
      unfold matchS
      rw [← mrun_match, HR]
      cases m with
      | false => rfl
      | true =>
        obtain ⟨q, qs, e⟩ := partsL_cons (l := r)
        show (partsL r).isEmpty = false
        rw [e]; rfl
    have HBB := Lib.hid hB
    clear HR HL hB H0 H1 H2 H3 hB0 hf hz
    gi_wp2
    have hK' := (KeepsOthers.setCell W ⟨w.heap.size, 0, none⟩ (.bool (!m))).same D _ hK rfl
    refine ⟨by simp, .inl ⟨_, _, rfl, run_takeDeferred hK', ?_⟩⟩
    have hc5 := cell_kept (World.cell?_setCell_same' W ⟨w.heap.size, 0, none⟩ (.bool (!m)) (by rw [c0]; rfl)) (grownBy_putObj' _ D (.deferred none)) (fun r e => by cases e; exact ⟨_, hK', rfl⟩)
    refine ⟨.bool (!m), ?_, ret_bool HV.out.symm, (HBB.out.setCell (p := ⟨w.heap.size, 0, none⟩) (Nat.le_refl _) _).trans (belowK_b (w := w) (Nat.le_refl _) _ D _ _ (by simp at hD; omega) hK' rfl rfl)⟩
    simp [results, Try.f19, go_sem, hc5]
  case stop =>
    rintro D c pre W hD hpre ⟨⟨rfl, a, ha, ⟨c0, f0⟩⟩, hB⟩ hK
    have HV : Hid (matchS f z = a) := by
      show _ = _
      unfold matchS
      rw [← mrun_match, mrun_stays ha hpre]
      rfl
    have HBB := Lib.hid hB
    clear ha hpre hB H0 H1 H2 H3 hB0 hf hz
    gi_wp2
    refine ⟨by simp, .inl ⟨_, _, rfl, run_takeDeferred hK, ?_⟩⟩
    have hc5 := cell_kept c0 (grownBy_putObj' _ D (.deferred none)) (fun r e => by cases e; exact ⟨_, hK, rfl⟩)
    refine ⟨.bool a, ?_, ret_bool HV.out.symm, HBB.out.trans (belowK_b (w := w) (Nat.le_refl _) W D _ _ (by simp at hD; omega) hK rfl rfl)⟩
    simp [results, Try.f19, go_sem, hc5]
end Go.Proofs.Ytnjcfnmdelpecaa.Tp
