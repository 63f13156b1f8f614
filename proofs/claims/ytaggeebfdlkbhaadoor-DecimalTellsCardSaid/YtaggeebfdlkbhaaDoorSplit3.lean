/- The contract of split, where there is a point; and whole. -/
import Derived.Test.YtaggeebfdlkbhaaDoorSplit2
set_option linter.unusedSimpArgs false
set_option linter.unusedVariables false
namespace Go.Proofs.YtaggeebfdlkbhaaDoor
open Go.RowKit Go.Sort

set_option maxHeartbeats 2000000 in
theorem split_point (l : List UInt8) (w : World) (hl : l.length ≤ 400) (neg : Bool) (HN : Hid (pre l 45 = neg)) (S1 W S2 S3 Fr S4 : List UInt8) (H1 : Hid (cutp l 45 = S1)) (HW : Hid (headD S1 = W)) (H2 : Hid (restD S1 = S2))
    (hb : badW W = false) (HPt : Hid (pre S2 46 = true)) (H3 : Hid (cutp S2 46 = S3)) (HF : Hid (headD S3 = Fr)) (H4 : Hid (restD S3 = S4)) (o : Option Numeral) (HO : Hid ((if Fr.isEmpty = true then none else tailS neg W Fr S4) = o)) :
    Calls Tryd.prog 30 #[.string ⟨l.toArray⟩] w (Ret (splV o) w) := by
  have hS1 : S1.length ≤ 400 := by have := cutp_len l 45; rw [H1.out] at this; omega
  have hS3 : S3.length ≤ 400 := by
    have h1 := cutp_len S2 46
    have h2 : (restD S1).length ≤ S1.length := (List.dropWhile_suffix _).length_le
    rw [H2.out] at h2
    rw [H3.out] at h1
    omega
  have hS4 : S4.length ≤ 400 := by
    have h2 : (restD S3).length ≤ S3.length := (List.dropWhile_suffix _).length_le
    rw [H4.out] at h2
    omega
  obtain ⟨x, W', rfl, hg⟩ := goodW hb
  clear hb
  rcases hg with hg | ⟨hg1, hg2⟩
  all_goals
    go_enter Tryd.func30, Tryd.ntmps30
    go_wp2_with fail
    (with_reducible refine (cutp_any _ _ _).mono ?_)
    rintro e1 w1 ⟨rfl, rfl⟩
    rw [H1.out, HN.out]
    go_wp2_with fail
    (with_reducible refine (cut_any _ _ (by omega)).mono ?_)
    rintro e1 w1 ⟨rfl, hb1⟩
    rw [HW.out, H2.out]
    have NR : NumAt w1 w.heap.size (.bool false) (.string ⟨#[]⟩) (.string ⟨#[]⟩) (.int .i64 0) := NumAt.below ⟨by simp, by simp, by simp, by simp, fun o => by simp, by simp; omega⟩ hb1
    have NN : NumAt w1 (w.heap.size + 1) (.bool neg) (.string ⟨#[]⟩) (.string ⟨#[]⟩) (.int .i64 0) := NumAt.below ⟨by simp, by simp, by simp, by simp, fun o => by simp, by simp⟩ hb1
    obtain ⟨n0, n1, n2, n3, fn, hz⟩ := NN
    have hbb := below_call (below_call hb1)
    clear hb1
    go_wp2_with fail
    (with_reducible refine (cutp_any _ _ _).mono ?_)
    rintro e1 w2 ⟨rfl, rfl⟩
    rw [HPt.out, H3.out]
    go_wp2_with fail
    (with_reducible refine (cut_any _ _ (by omega)).mono ?_)
    rintro e1 w2 ⟨rfl, hb2⟩
    rw [HF.out, H4.out]
    have NN : NumAt w2 (w.heap.size + 1) (.bool neg) (.string ⟨(x :: W').toArray⟩) (.string ⟨#[]⟩) (.int .i64 0) := (NumAt.set1 ⟨n0, n1, n2, n3, fn, hz⟩ _).below hb2
    have NR2 := (NR.far (a := ⟨w.heap.size + 1, 1, none⟩) (by simp) (.string ⟨(x :: W').toArray⟩)).below hb2
    have hbb2 : Below w.heap.size w w2 := (hbb.setCell (p := ⟨w.heap.size + 1, 1, none⟩) (by simp) _).trans (hb2.mono (by simp [World.setCell]; omega))
    clear n0 n1 n2 n3 fn hz NR hbb hb2
    obtain ⟨n0, n1, n2, n3, fn, hz⟩ := NN
    rcases hFe : Fr.isEmpty with _ | _
    · rcases hSe : S4.isEmpty with _ | _
      · obtain ⟨c, r, rfl⟩ : ∃ c r, S4 = c :: r := by cases S4 with | nil => simp at hSe | cons c r => exact ⟨c, r, rfl⟩
        go_wp2_with fail
        (with_reducible refine (power_any _ _ _ hS4).mono ?_)
        rintro e1 w3 ⟨rfl, hb3⟩
        have NN : NumAt w3 (w.heap.size + 1) (.bool neg) (.string ⟨(x :: W').toArray⟩) (.string ⟨Fr.toArray⟩) (.int .i64 0) := (NumAt.set2 ⟨n0, n1, n2, n3, fn, hz⟩ _).below hb3
        have NR3 := (NR2.far (a := ⟨w.heap.size + 1, 2, none⟩) (by simp) (.string ⟨Fr.toArray⟩)).below hb3
        have hbb3 : Below w.heap.size w w3 := (hbb2.setCell (p := ⟨w.heap.size + 1, 2, none⟩) (by simp) _).trans (hb3.mono (by simp [World.setCell]; omega))
        clear n0 n1 n2 n3 fn hz NR2 hbb2 hb3
        obtain ⟨n0, n1, n2, n3, fn, hz⟩ := NN
        obtain ⟨r0, r1, r2, r3, fr, _⟩ := NR3
        rcases hP : powS (c :: r) with _ | E
        · have a1 : o = none := by rw [← HO.out]; unfold tailS; rw [hFe, hSe, hP]; rfl
          have A1 := Lib.hid a1
          clear a1
          unfold powV
          go_wp2_with fail
          rw [A1.out]
          exact bodyPost_ret (v := splV none) (by simp [splV, results, Tryd.results30, go_sem, r0, r1, r2, r3]) rfl ⟨rfl, by repeat (first | exact hbb3 | refine Below.setCell ?_ (by simp) _)⟩
        · have a1 : o = some (neg, x :: W', Fr, E) := by rw [← HO.out]; unfold tailS; rw [hFe, hSe, hP]; rfl
          have A1 := Lib.hid a1
          clear a1
          unfold powV
          go_wp2_with fail
          rw [A1.out]
          exact bodyPost_ret (v := splV (some (neg, x :: W', Fr, E))) (by simp [splV, results, Tryd.results30, go_sem, r0, r1, r2, r3]) rfl ⟨rfl, by repeat (first | exact hbb3 | refine Below.setCell ?_ (by simp) _)⟩
      · have a1 : o = some (neg, x :: W', Fr, 0) := by rw [← HO.out]; unfold tailS; rw [hFe, hSe]; rfl
        have A1 := Lib.hid a1
        clear a1
        obtain ⟨r0, r1, r2, r3, fr, _⟩ := NR2
        go_wp2_with fail
        rw [A1.out]
        exact bodyPost_ret (v := splV (some (neg, x :: W', Fr, 0))) (by simp [splV, clampE_zero, results, Tryd.results30, go_sem, r0, r1, r2, r3]) rfl ⟨rfl, by repeat (first | exact hbb2 | refine Below.setCell ?_ (by simp) _)⟩
    · have a1 : o = none := by rw [← HO.out, hFe]; rfl
      have A1 := Lib.hid a1
      clear a1
      obtain ⟨r0, r1, r2, r3, fr, _⟩ := NR2
      go_wp2_with fail
      rw [A1.out]
      exact bodyPost_ret (v := splV none) (by simp [splV, results, Tryd.results30, go_sem, r0, r1, r2, r3]) rfl ⟨rfl, by repeat (first | exact hbb2 | refine Below.setCell ?_ (by simp) _)⟩

theorem split_any (l : List UInt8) (w : World) (hl : l.length ≤ 400) :
    Calls Tryd.prog 30 #[.string ⟨l.toArray⟩] w (Ret (splV (splitS l)) w) := by
  unfold splitS
  rcases hb : badW (headD (cutp l 45)) with _ | _
  · simp only [hb, Bool.false_eq_true, if_false]
    rcases hp : pre (restD (cutp l 45)) 46 with _ | _
    · simp only [Bool.false_eq_true, if_false]
      exact split_plain l w hl _ rfl _ _ _ _ rfl rfl rfl hb hp rfl _ rfl
    · simp only [if_true]
      exact split_point l w hl _ rfl _ _ _ _ _ _ rfl rfl rfl hb hp rfl rfl rfl _ rfl
  · simp only [hb, if_true]
    exact split_bad l w hl _ rfl _ _ _ rfl rfl rfl hb
end Go.Proofs.YtaggeebfdlkbhaaDoor
