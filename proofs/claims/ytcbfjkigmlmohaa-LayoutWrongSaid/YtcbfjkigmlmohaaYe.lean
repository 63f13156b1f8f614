import Derived.Test.YtcbfjkigmlmohaaYd
import Derived.Deep.AppendLies
/- Out: rows of numbers of one's own that grow. -/
set_option linter.unusedVariables false
set_option linter.unusedSimpArgs false
namespace Go.Proofs.Ytcbfjkigmlmohaa.Ly
open Go.RowKit

theorem int_info : (Try.prog.info? 3).map (fun i => (i.zero, i.size, i.bytes)) = some (some (.int .i64 0), 1, 8) := by kernel_rfl
theorem edge_info : (Try.prog.info? 40).map (fun i => (i.zero, i.size, i.bytes)) = some (some (.agg #[.int .i64 0, .int .i64 0, .int .i64 0]), 3, 24) := by kernel_rfl
theorem row_form {B n : Nat} {w : World} {e : TypeId} {sz : Nat} {v : Value} {xs : List Value} (h : w.ownsRow B e sz v n xs) : ∃ ao cap, v = .slice ao n cap := by
  rcases h.2 with ⟨rfl, hn⟩ | ⟨g, cp, cur, hv, _⟩
  · exact ⟨none, 0, by rw [hn]⟩
  · exact ⟨_, _, hv⟩
/-- A row of one's own grows: what is older stays. -/
theorem row_below {B n : Nat} {W wX w3 : World} {vo : Value} {T : TypeId} {s : Nat} {xs : List Value} {o : Obj} (hrow : wX.ownsRow B T s vo n xs) (hgrow : (wX.alloc o).grownBy w3 vo.ownBlock) (hB : Below B W wX) (hs : B ≤ wX.heap.size) : Below B W w3 :=
  (hB.alloc hs o).grown hgrow (by simp; omega) (fun k hk => (hrow.lt k hk).1)
/-- A slice of numbers that was made. -/
def RetInts (l : List Int) (w : World) (e : Ending) (w' : World) : Prop := ∃ v, e = .returned v ∧ IntsAt w' v l ∧ Below w.heap.size w w'
set_option maxHeartbeats 8000000 in
theorem out_any {n : Int} {es : List Ed} {w : World} (v : Value) (hv : EdgesAt w v es) (x : Int) :
    Calls Try.prog 16 #[.agg #[.int .i64 n, v], .int .i64 x] w (RetInts (outL n es x) w) := by
  have HB0 : Hid (Below w.heap.size w (w.alloc (.cells #[.int .i64 n, v] 24))) := (Below.refl _ w).alloc (Nat.le_refl _) _
  have HX0 := Lib.hid (BoxAt.new n v w)
  have HV := Lib.hid (hv.below HB0.out (Nat.le_refl _))
  have hv1 := HV.out
  obtain ⟨l, hx⟩ : ∃ l, outL n es x = l := ⟨_, rfl⟩
  rw [hx]
  have HX := Lib.hid hx
  clear hx
  obtain ⟨Q, HQ⟩ : ∃ Q, Hid (RetInts l w = Q) := ⟨_, rfl⟩
  rw [HQ.out]
  cases hr : rightB n es with
  | false =>
    have HE : Hid (l = []) := by
      have := HX.out
      unfold outL at this
      rw [hr] at this
      exact this.symm
    have C := Lib.hid (fun u w' hu => right_any (n := n) (es := es) (w := w') u hu false hr)
    clear hr hv hv1
    go_enter Try.func16, Try.ntmps16
    go_wp2_with (go_at_call 20; (with_reducible refine (C.out _ _ HV.out).mono ?_); rintro e w1 ⟨rfl, hb1⟩; have HB1 := Lib.hid (HB0.out.trans (hb1.mono HB0.out.size)); clear hb1)
    rw [← HQ.out]
    obtain rfl := HE.out
    exact ⟨_, rfl, IntsAt.nil _ _, HB1.out⟩
  | true =>
    have hr120 : es.length ≤ 120 := (rightB_iff.1 hr).2.2.1
    have HE : Hid (selL (fun i => decide ((ate es i).1 = x)) es.length = l) := by
      have := HX.out
      unfold outL at this
      rwa [hr] at this
    have C := Lib.hid (fun u w' hu => right_any (n := n) (es := es) (w := w') u hu true hr)
    clear hr hv
    obtain ⟨ao, cap, rfl, hl, hc⟩ := hv1
    have HC := Lib.hid hc
    clear hc
    obtain ⟨i0, hi0, hz0, hz1, hz2⟩ := info_parts int_info
    obtain ⟨p, hp⟩ : ∃ p : Nat → Bool, (fun i => decide ((ate es i).1 = x)) = p := ⟨_, rfl⟩
    rw [hp] at HE
    have HP : Hid (∀ i, p i = decide ((ate es i).1 = x)) := fun i => by rw [← hp]
    clear hp
    go_enter Try.func16, Try.ntmps16
    go_wp2_with (go_at_call 20; (with_reducible refine (C.out _ _ HV.out).mono ?_); rintro e w1 ⟨rfl, hb1⟩; have HB1 := Lib.hid (HB0.out.trans (hb1.mono HB0.out.size)); have HX1 := Lib.hid (HX0.out.below hb1); have c0 := HX1.out.c0; have c1 := HX1.out.c1; have HW1 := Lib.hid hb1; clear hb1)
    clear c0 c1
    go_loopw [5, 14] (fun vo i wr => ∃ (k m : Nat) (vo' : Value), vo' = vo ∧ k ≤ es.length ∧ i = .int .i64 k ∧ m ≤ k ∧ Hid (wr.ownsRow w1.heap.size 3 1 vo' m (intC (selL p k))) ∧ Hid (m = (selL p k).length) ∧ Hid (Below w1.heap.size w1 wr)) (fun _ i _ => es.length - (intOf i).toNat)
    case atStart => exact ⟨0, 0, _, rfl, Nat.zero_le _, rfl, Nat.le_refl _, World.ownsRow_nil _ _ _ _, rfl, Below.refl _ _⟩
    case round =>
      obtain ⟨k, m, vo, rfl, hk, rfl, hmk, HO, HM, HR⟩ := hrel
      by_cases hlt : k < es.length
      · obtain ⟨b, o, rfl, lb, hcs⟩ := HC.out (by omega)
        have hE := (HW1.out.trans (HR.out.mono HW1.out.size))
        have g0 := (hE.cell (p := ⟨b, o + k * 3, none⟩) lb).trans (hcs k hlt).1
        have g1 := (hE.cell (p := ⟨b, o + k * 3 + 1, none⟩) lb).trans (hcs k hlt).2.1
        have g2 := (hE.cell (p := ⟨b, o + k * 3 + 2, none⟩) lb).trans (hcs k hlt).2.2
        have HPK := Lib.hid (HP.out k)
        have hbs : w1.heap.size ≤ wr.heap.size := HR.out.size
        generalize (ate es k).2.2 = c at *
        generalize (ate es k).2.1 = g at *
        generalize (ate es k).1 = f at *
        have HBa : Hid (Below w1.heap.size w1 (wr.alloc (.cells #[.int .i64 f, .int .i64 g, .int .i64 c] 40))) := HR.out.alloc hbs _
        have HOa : Hid ((wr.alloc (.cells #[.int .i64 f, .int .i64 g, .int .i64 c] 40)).ownsRow w1.heap.size 3 1 vo m (intC (selL p k))) := HO.out.alloc _
        obtain ⟨ao2, cap2, rfl⟩ := row_form HO.out
        clear hE hcs
        by_cases h1 : f = x
        · subst h1
          have HS : Hid (selL p (k + 1) = selL p k ++ [(k : Int)]) := selL_yes (by rw [HPK.out]; simp)
          go_wp2_with (at_builtin; (refine wpList_append_lies _ rfl _ _ 26 rfl w1.heap.size 3 i0 _ 1 8 Try.underlying26 hi0 hz0 hz1 hz2 rfl (by omega) _ m (intC (selL p k)) rfl (HOa.out.alloc _) ⟨wr.heap.size + 1, 0, none⟩ 1 1 [.int .i64 k] rfl rfl (World.news_of_block (cs := #[.int .i64 k]) (t := 3) (fr := (0, 0)) (by exact heap_alloc2_new wr _ _)) (by simp [Value.oneCell']) (by omega) (by unfold maxLen; omega) (by omega) (by simp; omega) (wr.heap.size + 2) (by simp) ?_); intro g' cp w4 hown hgrow hat hlt4)
          have HN : Hid (w4.ownsRow w1.heap.size 3 1 (.slice (some ⟨g', 0, none⟩) (m + 1) cp) (m + 1) (intC (selL p (k + 1)))) := by
            show World.ownsRow _ _ _ _ _ _ _
            rw [HS.out, intC_append]
            exact hown
          have HBn := Lib.hid (row_below HOa.out hgrow HBa.out (by simp; omega))
          have HMn : Hid (m + 1 = (selL p (k + 1)).length) := by
            show _ = _
            rw [HS.out, List.length_append, ← HM.out]
            rfl
          clear hown hgrow hat hlt4
          go_roundw
          case rel => exact ⟨k + 1, m + 1, _, rfl, by omega, by go_num, by omega, HN, HMn, HBn⟩
          case measure => simp [intOf]; omega
        · have HS : Hid (selL p (k + 1) = selL p k) := selL_no (by rw [HPK.out]; simpa using h1)
          have d1 : (f == x) = false := by simpa using h1
          have HN : Hid ((wr.alloc (.cells #[.int .i64 f, .int .i64 g, .int .i64 c] 40)).ownsRow w1.heap.size 3 1 (.slice ao2 m cap2) m (intC (selL p (k + 1)))) := by
            show World.ownsRow _ _ _ _ _ _ _
            rw [HS.out]
            exact HOa.out
          have HMn : Hid (m = (selL p (k + 1)).length) := by show _ = _; rw [HS.out]; exact HM.out
          clear h1
          go_wp2_with fail
          go_roundw
          case rel => exact ⟨k + 1, m, _, rfl, by omega, by go_num, by omega, HN, HMn, HBa⟩
          case measure => simp [intOf]; omega
      · obtain rfl : k = es.length := by omega
        have HF : Hid (IntsAt wr vo l) := by
          show IntsAt _ _ _
          rw [← HE.out]
          exact ints_own HO.out HM.out.symm (by omega)
        have HBn := Lib.hid (HB1.out.trans (HR.out.mono HB1.out.size))
        go_wp2_with fail
        rw [← HQ.out]
        exact ⟨_, rfl, HF.out, HBn.out⟩
end Go.Proofs.Ytcbfjkigmlmohaa.Ly
