import Derived.Test.YtnpbkjmlmdpggaaWb
import Derived.Test.YtnpbkjmlmdpggaaYe
/- isPath, Stops: ranges over a path by turns. -/
set_option linter.unusedVariables false
set_option linter.unusedSimpArgs false
namespace Go.Proofs.Ytnpbkjmlmdpggaa.Wk
open Go.RowKit Go.Shelf Ly
attribute [local go_sem] Oper.semAt_some

theorem slIn {w : World} {v : Value} {l : List Int} (h : IntsAt w v l) : ∃ ao n c, v = .slice ao n c := by
  obtain ⟨ao, cap, h, _⟩ := h
  exact ⟨ao, _, cap, h⟩
def fineTo (p : List Int) (k : Nat) : Prop := ∀ i, i < k → elB i (pi p i) = true
theorem fine_step {p : List Int} {k : Nat} (h : fineTo p k) (hk : elB k (pi p k) = true) : fineTo p (k + 1) := fun i hi => by
  by_cases e : i = k
  · subst e; exact hk
  · exact h i (by omega)
theorem path_bad {p : List Int} {k : Nat} (h : k < p.length) (hk : elB k (pi p k) = false) : pathB p = false := by
  cases e : pathB p with
  | false => rfl
  | true =>
    have := (pathB_iff.1 e).2 k h
    rw [hk] at this
    cases this
theorem path_fine {p : List Int} (h : fineTo p p.length) : pathB p = decide (p.length % 2 = 1) := by
  by_cases e : p.length % 2 = 1
  · rw [decide_eq_true e, pathB_iff]; exact ⟨e, h⟩
  · rw [decide_eq_false e]
    cases e2 : pathB p with
    | false => rfl
    | true => exact absurd (pathB_iff.1 e2).1 e
theorem elB_turn {k : Nat} {x : Int} : elB k x = (if decide (k % 2 = 1) = true then decide (1000 ≤ x) else decide (0 ≤ x) && decide (x < 1000)) := by
  unfold elB
  by_cases e : k % 2 = 0
  · rw [if_pos e, show decide (k % 2 = 1) = false from decide_eq_false (by omega)]; rfl
  · rw [if_neg e, show decide (k % 2 = 1) = true from decide_eq_true (by omega)]; rfl
set_option maxRecDepth 100000 in
set_option maxHeartbeats 2000000 in
theorem isPath_any {p : List Int} {w : World} (v : Value) (hp : IntsAt w v p) : Calls Try.prog 32 #[v] w (Ret (.bool (pathB p)) w) := by
  obtain ⟨Q, HQ⟩ : ∃ Q, Hid (Ret (.bool (pathB p)) w = Q) := ⟨_, rfl⟩
  rw [HQ.out]
  have HP := Lib.hid hp
  obtain ⟨ao, ac, rfl, hlen, -⟩ := hp
  obtain ⟨N, HN⟩ : ∃ N, Hid (p.length = N) := ⟨_, rfl⟩
  rw [HN.out] at HP hlen
  rw [HN.out]
  refine (callsIn_wide (n := 6)).1 ?_
  refine callsIn_of_wp_marks Try.func32 rfl trivial ?_ rfl
  simp only [Try.ntmps32, List.size_toArray, List.length_cons, List.length_nil, Nat.reduceAdd, Nat.reduceSub, Array.replicate_succ, Array.replicate_zero, List.push_toArray, List.append_toArray, List.nil_append, List.cons_append]
  gi_wp2_with (refine ⟨trivial, ?_⟩; gi_at_call 33; refine (callsIn_wide.2 (byTurns_any _ ⟨_, _, _, rfl⟩ _)).mono ?_; rintro e w' ⟨rfl, rfl⟩)
  have H0 := HoldsA.new w #[.bool false] 4 0 _ rfl
  have H1 := HoldsA.new (w.alloc (.cells #[.bool false] 4)) #[.slice ao N ac] 27 0 _ rfl
  have b1 : Below w.heap.size w (w.alloc (.cells #[.bool false] 4)) := (Below.refl _ _).alloc (Nat.le_refl _) _
  have b2 : Below (w.alloc (.cells #[.bool false] 4)).heap.size (w.alloc (.cells #[.bool false] 4)) ((w.alloc (.cells #[.bool false] 4)).alloc (.cells #[.slice ao N ac] 27)) := (Below.refl _ _).alloc (Nat.le_refl _) _
  replace H0 := H0.grow b2
  have HB := b1.trans (b2.mono b1.size)
  have hs : ((w.alloc (.cells #[.bool false] 4)).alloc (.cells #[.slice ao N ac] 27)).heap.size = w.heap.size + 1 + 1 := by simp
  rw [World.size_alloc] at H1
  clear b1 b2
  generalize (w.alloc (.cells #[.bool false] 4)).alloc (.cells #[.slice ao N ac] 27) = w1 at *
  refine wpIn_rangeFunc_ownV1 (by rfl) (by omega) (gf := 45) (lb := #[.pointer (some ⟨w.heap.size + 1, 0, none⟩)]) rfl trivial (enters_of Try.func45 (by kernel_rfl) rfl)
    (turns_seq (V := fun k => k < w.heap.size) 5 (by omega) HP.out HB (fun _ h => h) H1.1 (by omega)) (fun _ => rfl) (fun k (hk : k < w.heap.size) => by omega)
    (fun pre W => Hid (HoldsA W w.heap.size 0 (.bool false)) ∧ Hid (fineTo p pre.length) ∧ Hid (Below w.heap.size w W))
    (fun c pre W => c = .ret ∧ Hid (HoldsA W w.heap.size 0 (.bool false)) ∧ Hid (pathB p = false) ∧ Hid (Below w.heap.size w W))
    (fun s X Y g h => ⟨h.1.out.gw g (by omega), h.2.1, below_gw h.2.2.out g (by omega) (Nat.le_refl _)⟩)
    (fun c s X Y g h => ⟨h.1, h.2.1.out.gw g (by omega), h.2.2.1, below_gw h.2.2.2.out g (by omega) (Nat.le_refl _)⟩)
    ⟨H0, fun i hi => by simp at hi, HB⟩ ⟨_, fun l x W K hK => by gi_wp2; exact hK, ?body⟩ ?done ?stop
  case body =>
    rintro l pre ⟨x, t⟩ W hsz ⟨HH, HF, HBW⟩ hsp
    obtain ⟨hlt, -, hx⟩ := turns_next hsp
    obtain ⟨rfl, rfl⟩ := (Prod.mk.injEq .. ▸ hx : _ ∧ _)
    have HE := Lib.hid (elB_turn (k := pre.length) (x := ati p pre.length))
    obtain ⟨c0, f0⟩ := HH.out
    have HL := Lib.hid hlt
    have hpl : (pre ++ [(ati p pre.length, decide (pre.length % 2 = 1))]).length = pre.length + 1 := by simp
    have HPL := Lib.hid hpl
    have HBAD : elB pre.length (ati p pre.length) = false → ∀ a, postV (fun k => k < w.heap.size) w1.heap.size (fun pre W => Hid (HoldsA W w.heap.size 0 (.bool false)) ∧ Hid (fineTo p pre.length) ∧ Hid (Below w.heap.size w W))
        (fun c pre W => c = .ret ∧ Hid (HoldsA W w.heap.size 0 (.bool false)) ∧ Hid (pathB p = false) ∧ Hid (Below w.heap.size w W)) (pre ++ [(ati p pre.length, decide (pre.length % 2 = 1))]) W .ret a (W.setCell ⟨w.heap.size, 0, none⟩ (.bool false)) := fun he a =>
      ⟨⟨by simp [World.setCell], fun k hk => Below.heap_setCell _ _ _ k (by rcases hk with h | h | h <;> (intro e; have : k = w.heap.size := e; omega))⟩, rfl, HH.out.set _, path_bad HL.out he, HBW.out.setCell (p := ⟨w.heap.size, 0, none⟩) (Nat.le_refl _) _⟩
    have HOK : elB pre.length (ati p pre.length) = true → ∀ a, postV (fun k => k < w.heap.size) w1.heap.size (fun pre W => Hid (HoldsA W w.heap.size 0 (.bool false)) ∧ Hid (fineTo p pre.length) ∧ Hid (Below w.heap.size w W))
        (fun c pre W => c = .ret ∧ Hid (HoldsA W w.heap.size 0 (.bool false)) ∧ Hid (pathB p = false) ∧ Hid (Below w.heap.size w W)) (pre ++ [(ati p pre.length, decide (pre.length % 2 = 1))]) W .normal a W := fun he a =>
      ⟨Kv.refl _ _, HH, by show fineTo _ _; rw [HPL.out]; exact fine_step HF.out he, HBW⟩
    have HBAD' := Lib.hid HBAD
    have HOK' := Lib.hid HOK
    clear HBAD HOK hsp hlt hpl hx HF HH HP hs hsz
    generalize decide (pre.length % 2 = 1) = t at *
    generalize elB pre.length (ati p pre.length) = R at *
    generalize ati p pre.length = x at *
    by_cases h0 : x < 0
    · have hr : R = false := by rw [HE.out]; cases t <;> simp <;> omega
      subst hr
      gi_wp2
      exact HBAD'.out trivial _
    · by_cases h1 : 1000 ≤ x
      · cases t with
        | true =>
          have hr : R = true := by rw [HE.out]; simp; omega
          subst hr
          gi_wp2
          exact HOK'.out trivial _
        | false =>
          have hr : R = false := by rw [HE.out]; simp; omega
          subst hr
          gi_wp2
          exact HBAD'.out trivial _
      · cases t with
        | true =>
          have hr : R = false := by rw [HE.out]; simp; omega
          subst hr
          gi_wp2
          exact HBAD'.out trivial _
        | false =>
          have hr : R = true := by rw [HE.out]; simp; omega
          subst hr
          gi_wp2
          exact HOK'.out trivial _
  case done =>
    rintro D xs W hD rfl ⟨HH, HF, HBW⟩ hK
    have hpf := path_fine (p := p) (by have := HF.out; rwa [turns_len] at this)
    rw [hpf] at HQ
    rw [HN.out] at HQ
    obtain ⟨c0, f0⟩ := HH.out
    obtain ⟨b, hb⟩ : ∃ b, decide (N % 2 = 1) = b := ⟨_, rfl⟩
    rw [hb] at HQ
    have hb2 : (((N : Int) % 2) == 1) = b := by rw [← hb, Bool.eq_iff_iff]; simp; omega
    have hb3 : (Int.tmod (N : Int) 2 == 1) = b := by rw [← hb2, Int.tmod_eq_emod_of_nonneg (by omega)]
    gi_wp2
    have hK' := (KeepsOthers.setCell W ⟨w.heap.size, 0, none⟩ (.bool b)).same D _ hK rfl
    refine ⟨by simp, .inl ⟨_, _, rfl, run_takeDeferred hK', ?_⟩⟩
    obtain ⟨hc5, -⟩ := (HH.out.set (.bool b)).gw (Gw.put _ (.deferred none) (.inl hD)) (by omega)
    refine ⟨.bool b, ?_, ?_⟩
    · simp [results, Try.f32, go_sem, hc5]
    · rw [← HQ.out]
      exact ⟨rfl, below_gw (HBW.out.setCell (p := ⟨w.heap.size, 0, none⟩) (Nat.le_refl _) _) (Gw.put _ (.deferred none) (.inl hD)) (by omega) (Nat.le_refl _)⟩
  case stop =>
    rintro D c pre W hD hpre ⟨rfl, HH, HPB, HBW⟩ hK
    rw [HPB.out] at HQ
    obtain ⟨c0, f0⟩ := HH.out
    gi_wp2
    refine ⟨by simp, .inl ⟨_, _, rfl, run_takeDeferred hK, ?_⟩⟩
    have HH5 := HH.out.gw (Gw.put W (.deferred none) (.inl hD)) (by omega)
    obtain ⟨hc5, -⟩ := HH5
    refine ⟨.bool false, ?_, ?_⟩
    · simp [results, Try.f32, go_sem, hc5]
    · rw [← HQ.out]
      exact ⟨rfl, below_gw HBW.out (Gw.put W (.deferred none) (.inl hD)) (by omega) (Nat.le_refl _)⟩
end Go.Proofs.Ytnpbkjmlmdpggaa.Wk
