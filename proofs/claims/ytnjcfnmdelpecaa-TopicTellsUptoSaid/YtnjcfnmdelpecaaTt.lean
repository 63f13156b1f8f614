import Derived.Test.YtnjcfnmdelpecaaTs
import Derived.BigQuiet
import Derived.IntWalk
/- Layer 7, the document's side: its Match. -/
set_option linter.unusedVariables false
set_option linter.unusedSimpArgs false
namespace Go.Proofs.Ytnjcfnmdelpecaa.Tp
open Go.RowKit Go.Proofs.Ytnjcfnmdelpecaa.Own

theorem mp_hash {F N : List (List UInt8)} {k : Nat} (hk : k < F.length) (h : F[k] = [35]) (hl : k + 1 = F.length) : matchP (F.drop k) (N.drop k) = true := by
  rw [List.drop_eq_getElem_cons hk, mP1, if_pos ⟨List.drop_eq_nil_of_le (by omega), h⟩]
theorem mp_neg {F : List (List UInt8)} {k : Nat} (hk : k < F.length) (h : ¬ (F[k] = [35] ∧ k + 1 = F.length)) : ¬ (F.drop (k + 1) = [] ∧ F[k] = [35]) := by
  rintro ⟨h1, h2⟩
  refine h ⟨h2, ?_⟩
  have := List.drop_eq_nil_iff.1 h1
  omega
theorem mp_end {F N : List (List UInt8)} {k : Nat} (hk : k < F.length) (h : ¬ (F[k] = [35] ∧ k + 1 = F.length)) (hn : N.length ≤ k) : matchP (F.drop k) (N.drop k) = false := by
  rw [List.drop_eq_getElem_cons hk, mP1, if_neg (mp_neg hk h), if_pos (List.drop_eq_nil_of_le hn)]
theorem mp_on {F N : List (List UInt8)} {k : Nat} (hk : k < F.length) (h : ¬ (F[k] = [35] ∧ k + 1 = F.length)) (hn : k < N.length) (h2 : F[k] = [43] ∨ F[k] = N[k]) : matchP (F.drop k) (N.drop k) = matchP (F.drop (k + 1)) (N.drop (k + 1)) := by
  rw [List.drop_eq_getElem_cons hk, List.drop_eq_getElem_cons hn, mP2, if_neg (mp_neg hk h), if_pos h2]
theorem mp_off {F N : List (List UInt8)} {k : Nat} (hk : k < F.length) (h : ¬ (F[k] = [35] ∧ k + 1 = F.length)) (hn : k < N.length) (h2 : ¬ (F[k] = [43] ∨ F[k] = N[k])) : matchP (F.drop k) (N.drop k) = false := by
  rw [List.drop_eq_getElem_cons hk, List.drop_eq_getElem_cons hn, mP2, if_neg (mp_neg hk h), if_neg h2]
theorem mp_done {F N : List (List UInt8)} (hn : F.length ≤ N.length) : matchP (F.drop F.length) (N.drop F.length) = decide (F.length = N.length) := by
  rw [List.drop_length, mP0, Bool.eq_iff_iff, decide_eq_true_eq, List.isEmpty_iff, List.drop_eq_nil_iff]
  omega

/-- The cells of a slice of parts. -/
def CellsP (W : World) (b : Nat) (l : List (List UInt8)) : Prop := ∀ j (hj : j < l.length), W.cell? ⟨b, j, none⟩ = some (.string ⟨(l[j]).toArray⟩)
theorem CellsP.below {W W' : World} {b B : Nat} {l : List (List UInt8)} (h : CellsP W b l) (hb : Below B W W') (hlt : b < B) : CellsP W' b l := fun j hj => (hb.cell (p := ⟨b, j, none⟩) hlt).trans (h j hj)
theorem nat_beq_no {n m : Nat} (h : n ≠ m) : ((n : Int) == (m : Int)) = false := by simp; omega
theorem nat_beq_yes {n m : Nat} (h : n = m) : ((n : Int) == (m : Int)) = true := by simp [h]

set_option maxHeartbeats 4000000 in
set_option maxRecDepth 100000 in
theorem rMatch_any (f z : List UInt8) (w : World) (hf : f.length ≤ 2000000) (hz : z.length ≤ 2000000) (hF1 : (partsL f).length ≤ 3000000) (hN1 : (partsL z).length ≤ 3000000) :
    Calls Try.prog 20 #[.string ⟨f.toArray⟩, .string ⟨z.toArray⟩] w (Ret (.bool (matchS f z)) w) := by
  have C1 := Lib.hid (fun u => rparts_any f u hf)
  have C2 := Lib.hid (fun u => rparts_any z u hz)
  have hF0 : 0 < (partsL f).length := List.length_pos_iff.2 (partsL_ne f)
  unfold matchS
  have HA1 : Hid (∀ (w : World) (v : Value), PartsAt w v (partsL f) → ∃ b cap, v = .slice (some ⟨b, 0, none⟩) (partsL f).length cap ∧ b < w.heap.size ∧ CellsP w b (partsL f)) := fun w v h => h.form
  have HA2 : Hid (∀ (w : World) (v : Value), PartsAt w v (partsL z) → ∃ b cap, v = .slice (some ⟨b, 0, none⟩) (partsL z).length cap ∧ b < w.heap.size ∧ CellsP w b (partsL z)) := fun w v h => h.form
  generalize partsL f = F at *
  generalize partsL z = N at *
  generalize (⟨f.toArray⟩ : ByteArray) = fv at *
  generalize (⟨z.toArray⟩ : ByteArray) = zv at *
  clear hf hz
  go_enter Try.func20, Try.ntmps20
  go_wp2_with (first | (go_at_call 26; (with_reducible refine (C1.out _).mono ?_); rintro e w1 ⟨v, rfl, hpv, hb1⟩; obtain ⟨bf, capf, rfl, hltf, hcf⟩ := HA1.out _ _ hpv; have HCF := Lib.hid hcf; have B1 := Lib.hid hb1; clear hpv hb1 hcf) | (go_at_call 26; (with_reducible refine (C2.out _).mono ?_); rintro e w2 ⟨v, rfl, hpv, hb2⟩; obtain ⟨bn, capn, rfl, hltn, hcn⟩ := HA2.out _ _ hpv; have HCN := Lib.hid hcn; have HCF2 := Lib.hid (HCF.out.below hb2 hltf); have B2 := Lib.hid (below2 B1.out hb2); clear hpv hb2 hcn))
  clear C1 C2 HA1 HA2 HCF B1
  obtain ⟨M, hM0⟩ : ∃ M, matchP F N = M := ⟨_, rfl⟩
  have HM := Lib.hid hM0
  clear hM0
  go_loopw [7] (fun i wr => ∃ k q : Nat, k ≤ F.length ∧ k ≤ N.length ∧ i = .int .i64 k ∧ Hid (matchP (F.drop k) (N.drop k) = M) ∧ w2.drewN q = wr) (fun i _ => F.length - (intOf i).toNat)
  case atStart => exact ⟨0, 0, Nat.zero_le _, Nat.zero_le _, rfl, HM.out, rfl⟩
  case round =>
    obtain ⟨k, q, hk, hkn, rfl, HP, rfl⟩ := hrel
    by_cases hlt : k < F.length
    · have cF : (w2.drewN q).cell? ⟨bf, k, none⟩ = some (.string ⟨(F[k]).toArray⟩) := HCF2.out k hlt
      have cF0 : w2.cell? ⟨bf, k, none⟩ = some (.string ⟨(F[k]).toArray⟩) := HCF2.out k hlt
      by_cases hA : F[k] = [35] ∧ k + 1 = F.length
      · have HR := Lib.hid ((mp_hash (N := N) hlt hA.1 hA.2).symm.trans HP.out)
        have t1 := kd_yes [35] hA.1
        have t2 : ((k : Int) == (F.length : Int) - 1) = true := by simp; omega
        clear hA
        generalize (⟨(F[k]).toArray⟩ : ByteArray) = P at *
        go_wp2_with fail
        go_ret
        exact ⟨ret_bool (HR.out.trans HM.out.symm), below_dN B2.out q⟩
      · have t1 : ((⟨(F[k]).toArray⟩ : ByteArray).toList == [35]) = false ∨ (((⟨(F[k]).toArray⟩ : ByteArray).toList == [35]) = true ∧ ((k : Int) == (F.length : Int) - 1) = false) := by
          by_cases e : F[k] = [35]
          · refine .inr ⟨kd_yes _ e, ?_⟩
            have : k + 1 ≠ F.length := fun x => hA ⟨e, x⟩
            simp
            omega
          · exact .inl (kd_no _ e)
        by_cases hn : N.length ≤ k
        · have HR := Lib.hid ((mp_end hlt hA hn).symm.trans HP.out)
          have hge : (N.length : Int) ≤ (k : Int) := by omega
          clear hA
          generalize (⟨(F[k]).toArray⟩ : ByteArray) = P at *
          rcases t1 with t1 | ⟨t1, t2⟩
          all_goals go_wp2_with fail
          all_goals go_quiet (fail)
          all_goals go_wp2_with fail
          all_goals go_ret
          all_goals exact ⟨ret_bool (HR.out.trans HM.out.symm), below_dN (below_dN B2.out q) _⟩
        · have hn' : k < N.length := by omega
          have cN : (w2.drewN q).cell? ⟨bn, k, none⟩ = some (.string ⟨(N[k]).toArray⟩) := HCN.out k hn'
          have cN0 : w2.cell? ⟨bn, k, none⟩ = some (.string ⟨(N[k]).toArray⟩) := HCN.out k hn'
          have hge : (k : Int) < (N.length : Int) := by omega
          by_cases h2 : F[k] = [43] ∨ F[k] = N[k]
          · have HR := Lib.hid ((mp_on hlt hA hn' h2).symm.trans HP.out)
            have t3 : ((⟨(F[k]).toArray⟩ : ByteArray).toList == [43]) = true ∨ (((⟨(F[k]).toArray⟩ : ByteArray).toList == [43]) = false ∧ ((⟨(F[k]).toArray⟩ : ByteArray).toList == (⟨(N[k]).toArray⟩ : ByteArray).toList) = true) := by
              by_cases e : F[k] = [43]
              · exact .inl (kd_yes _ e)
              · exact .inr ⟨kd_no _ e, by rw [h2.resolve_left e]; simp⟩
            clear hA h2
            generalize (⟨(F[k]).toArray⟩ : ByteArray) = P at *
            generalize (⟨(N[k]).toArray⟩ : ByteArray) = H at *
            rcases t1 with t1 | ⟨t1, t2⟩
            all_goals rcases t3 with t3 | ⟨t3, t4⟩
            all_goals go_wp2_with fail
            all_goals go_quiet (fail)
            all_goals go_wp2_with fail
            all_goals exact ⟨⟨k + 1, _, by omega, by omega, by go_num, HR, rfl⟩, by simp [intOf]; omega⟩
          · have HR := Lib.hid ((mp_off hlt hA hn' h2).symm.trans HP.out)
            have t3 := kd_no [43] (fun e => h2 (.inl e))
            have t4 := str_ne (fun e => h2 (.inr e))
            clear hA h2
            generalize (⟨(F[k]).toArray⟩ : ByteArray) = P at *
            generalize (⟨(N[k]).toArray⟩ : ByteArray) = H at *
            rcases t1 with t1 | ⟨t1, t2⟩
            all_goals go_wp2_with fail
            all_goals go_quiet (fail)
            all_goals go_wp2_with fail
            all_goals go_ret
            all_goals exact ⟨ret_bool (HR.out.trans HM.out.symm), below_dN (below_dN B2.out q) _⟩
    · obtain rfl : k = F.length := by omega
      have HR := Lib.hid ((mp_done hkn).symm.trans HP.out)
      by_cases he : F.length = N.length
      · have t1 : ((F.length : Int) == (N.length : Int)) = true := nat_beq_yes he
        have HE : Hid (true = M) := by show _ = _; rw [← HR.out]; simp [he]
        clear he
        go_wp2_with fail
        go_ret
        exact ⟨ret_bool (HE.out.trans HM.out.symm), below_dN B2.out q⟩
      · have t1 : ((F.length : Int) == (N.length : Int)) = false := nat_beq_no he
        have HE : Hid (false = M) := by show _ = _; rw [← HR.out]; simp [he]
        clear he
        go_wp2_with fail
        go_ret
        exact ⟨ret_bool (HE.out.trans HM.out.symm), below_dN B2.out q⟩
end Go.Proofs.Ytnjcfnmdelpecaa.Tp
