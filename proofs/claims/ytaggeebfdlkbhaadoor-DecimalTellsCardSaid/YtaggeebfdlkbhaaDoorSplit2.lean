/- The contract of split, where there is no point. -/
import Derived.Test.YtaggeebfdlkbhaaDoorSplit
set_option linter.unusedSimpArgs false
set_option linter.unusedVariables false
namespace Go.Proofs.YtaggeebfdlkbhaaDoor
open Go.RowKit Go.Sort

/-- The whole part's test, as it is walked. -/
theorem goodW {W : List UInt8} (hb : badW W = false) : ∃ x W', W = x :: W' ∧ ((W'.length : Int) + 1 ≤ 1 ∨ (1 < (W'.length : Int) + 1 ∧ ((((⟨(x :: W').toArray⟩ : ByteArray)[0]'(cons_pos x W')).toNat : Int) == 48) = false)) := by
  cases W with
  | nil => simp [badW] at hb
  | cons x W' =>
    refine ⟨x, W', rfl, ?_⟩
    by_cases h : (W'.length : Int) + 1 ≤ 1
    · exact .inl h
    · refine .inr ⟨by omega, ?_⟩
      rw [first_byte, beq_eq_false_iff_ne]
      intro h2
      have h3 : x = 48 := UInt8.toNat_inj.1 (by show x.toNat = 48; omega)
      unfold badW at hb
      rw [show pre (x :: W') 48 = true by simp [pre, h3], show decide (1 < (x :: W').length) = true by simp; omega] at hb
      simp at hb

set_option maxHeartbeats 2000000 in
theorem split_plain (l : List UInt8) (w : World) (hl : l.length ≤ 400) (neg : Bool) (HN : Hid (pre l 45 = neg)) (S1 W S2 S3 : List UInt8) (H1 : Hid (cutp l 45 = S1)) (HW : Hid (headD S1 = W)) (H2 : Hid (restD S1 = S2))
    (hb : badW W = false) (HPt : Hid (pre S2 46 = false)) (H3 : Hid (cutp S2 46 = S3)) (o : Option Numeral) (HO : Hid (tailS neg W [] S3 = o)) :
    Calls Tryd.prog 30 #[.string ⟨l.toArray⟩] w (Ret (splV o) w) := by
  have hS1 : S1.length ≤ 400 := by have := cutp_len l 45; rw [H1.out] at this; omega
  have hS3 : S3.length ≤ 400 := by
    have h1 := cutp_len S2 46
    have h2 : (restD S1).length ≤ S1.length := (List.dropWhile_suffix _).length_le
    rw [H2.out] at h2
    rw [H3.out] at h1
    omega
  obtain ⟨x, W', rfl, hg⟩ := goodW hb
  clear hb
  rcases hg with hg | ⟨hg1, hg2⟩
  all_goals
    go_enter Tryd.func30, Tryd.ntmps30
    go_wp2_with fail
    (with_reducible refine (cutp_any _ _ _).mono ?_)
    rintro e1 w1 ⟨rfl, rfl⟩
    rw [H1.out, HN.out]
    go_wp2_with fail
    (with_reducible refine (cut_any _ _ (by omega)).mono ?_)
    rintro e1 w1 ⟨rfl, hb1⟩
    rw [HW.out, H2.out]
    have NR : NumAt w1 w.heap.size (.bool false) (.string ⟨#[]⟩) (.string ⟨#[]⟩) (.int .i64 0) := NumAt.below ⟨by simp, by simp, by simp, by simp, fun o => by simp, by simp; omega⟩ hb1
    have NN : NumAt w1 (w.heap.size + 1) (.bool neg) (.string ⟨#[]⟩) (.string ⟨#[]⟩) (.int .i64 0) := NumAt.below ⟨by simp, by simp, by simp, by simp, fun o => by simp, by simp⟩ hb1
    obtain ⟨n0, n1, n2, n3, fn, hz⟩ := NN
    have hbb := below_call (below_call hb1)
    clear hb1
    go_wp2_with fail
    (with_reducible refine (cutp_any _ _ _).mono ?_)
    rintro e1 w2 ⟨rfl, rfl⟩
    rw [HPt.out, H3.out]
    rcases hSe : S3.isEmpty with _ | _
    · obtain ⟨c, r, rfl⟩ : ∃ c r, S3 = c :: r := by cases S3 with | nil => simp at hSe | cons c r => exact ⟨c, r, rfl⟩
      go_wp2_with fail
      (with_reducible refine (power_any _ _ _ hS3).mono ?_)
      rintro e1 w2 ⟨rfl, hb2⟩
      have hz1 : w.heap.size < w1.heap.size := by omega
      have NN : NumAt w2 (w.heap.size + 1) (.bool neg) (.string ⟨(x :: W').toArray⟩) (.string ⟨#[]⟩) (.int .i64 0) := (NumAt.set1 ⟨n0, n1, n2, n3, fn, hz⟩ _).below hb2
      have NR2 := (NR.far (a := ⟨w.heap.size + 1, 1, none⟩) (by simp) (.string ⟨(x :: W').toArray⟩)).below hb2
      have hbb2 : Below w.heap.size w w2 := (hbb.setCell (p := ⟨w.heap.size + 1, 1, none⟩) (by simp) _).trans (hb2.mono (by simp [World.setCell]; omega))
      clear n0 n1 n2 n3 fn hz NR hbb hb2 hz1
      obtain ⟨n0, n1, n2, n3, fn, hz⟩ := NN
      obtain ⟨r0, r1, r2, r3, fr, _⟩ := NR2
      rcases hP : powS (c :: r) with _ | E
      · have a1 : o = none := by rw [← HO.out]; unfold tailS; rw [hSe, hP]; rfl
        have A1 := Lib.hid a1
        clear a1
        unfold powV
        go_wp2_with fail
        rw [A1.out]
        exact bodyPost_ret (v := splV none) (by simp [splV, results, Tryd.results30, go_sem, r0, r1, r2, r3]) rfl ⟨rfl, by repeat (first | exact hbb2 | refine Below.setCell ?_ (by simp) _)⟩
      · have a1 : o = some (neg, x :: W', [], E) := by rw [← HO.out]; unfold tailS; rw [hSe, hP]; rfl
        have A1 := Lib.hid a1
        clear a1
        unfold powV
        go_wp2_with fail
        rw [A1.out]
        exact bodyPost_ret (v := splV (some (neg, x :: W', [], E))) (by simp [splV, results, Tryd.results30, go_sem, r0, r1, r2, r3]) rfl ⟨rfl, by repeat (first | exact hbb2 | refine Below.setCell ?_ (by simp) _)⟩
    · have a1 : o = some (neg, x :: W', [], 0) := by rw [← HO.out]; unfold tailS; rw [hSe]; rfl
      have A1 := Lib.hid a1
      clear a1
      obtain ⟨r0, r1, r2, r3, fr, _⟩ := NR
      go_wp2_with fail
      rw [A1.out]
      exact bodyPost_ret (v := splV (some (neg, x :: W', [], 0))) (by simp [splV, clampE_zero, results, Tryd.results30, go_sem, r0, r1, r2, r3]) rfl ⟨rfl, by repeat (first | exact hbb | refine Below.setCell ?_ (by simp) _)⟩
end Go.Proofs.YtaggeebfdlkbhaaDoor
