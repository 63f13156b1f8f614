/- The walk of the law QuotePlain. -/
import Derived.Test.YtfkdepjioleakaaLCut
import Derived.RegionTactic
import Derived.IntWalk
set_option linter.unusedVariables false
set_option linter.unusedSimpArgs false
namespace Go.Proofs.Ytfkdepjioleakaa
open Go.RowKit

theorem below_drewN {B : Nat} {a w : World} (h : Below B a w) (n : Nat) : Below B a (w.drewN n) := h.trans ⟨rfl, rfl, rfl, Nat.le_refl _, fun _ _ => rfl⟩
/-- Quote of two raw whole texts, one behind the other. -/
theorem quote_two (za zb : List Int) (w : World) :
    Calls Try.prog 14 #[.string (⟨(flat (textR za)).toArray⟩ ++ ⟨(flat (textR zb)).toArray⟩)] w (Ret (.tuple #[.string ⟨(34 :: (bodyQ (textR za) ++ (bodyQ (textR zb) ++ [34]))).toArray⟩, .bool true]) w) := by
  have h1 := textR_len za
  have h2 := body_len (textR za)
  have h3 := textR_count za
  have g1 := textR_len zb
  have g2 := body_len (textR zb)
  have g3 := textR_count zb
  have hvr : ∀ r ∈ textR za ++ textR zb, vr r := fun r hr => by
    rcases List.mem_append.1 hr with hr | hr
    · exact textR_vr za r hr
    · exact textR_vr zb r hr
  rw [bs_append, ← flat_append]
  have hq : qBody (flat (textR za ++ textR zb)) = bodyQ (textR za) ++ bodyQ (textR zb) := by rw [qBody_flat' hvr, bodyQ_append]
  have := quote_any ⟨(flat (textR za ++ textR zb)).toArray⟩ w (by rw [bs_size, flat_append, List.length_append]; omega) (by
    show (qBody (flat (textR za ++ textR zb))).length + 16 ≤ _
    rw [hq, List.length_append]; omega)
  rw [show (⟨(flat (textR za ++ textR zb)).toArray⟩ : ByteArray).data.toList = flat (textR za ++ textR zb) by simp, quote_flat hvr, bodyQ_append, List.append_assoc] at this
  exact this
theorem all_ge {U : List UInt8} (h : ∀ c ∈ U, 32 ≤ c.toNat) (k : Nat) (hk : k < (⟨U.toArray⟩ : ByteArray).size) : 32 ≤ ((⟨U.toArray⟩ : ByteArray)[k]).toNat := by
  have hk' : k < U.length := by rw [bs_size] at hk; exact hk
  have : (⟨U.toArray⟩ : ByteArray)[k] = U[k] := rfl
  rw [this]
  exact h _ (List.getElem_mem hk')

set_option maxHeartbeats 2000000 in
set_option maxRecDepth 100000 in
theorem lplain_walk (va : Value) (za : List Int) (vb : Value) (zb : List Int) (w : World) (hva : IntsAt w va za) (hvb : IntsAt w vb zb) :
    Calls Try.prog 6 #[va, vb] w (Ret (.bool true) w) := by
  have HVA := Lib.hid hva
  have HVB := Lib.hid hvb
  have TXA := Lib.hid (fun u (h : IntsAt u va za) => text_any va za u h)
  have TXB := Lib.hid (fun u (h : IntsAt u vb zb) => text_any vb zb u h)
  have QA := Lib.hid (fun u => quote_text za u)
  have QB := Lib.hid (fun u => quote_text zb u)
  have QC := Lib.hid (fun u => quote_two za zb u)
  have la := textR_len za
  have lb := textR_len zb
  have la1 := body_len (textR za)
  have la2 := textR_count za
  have lb1 := body_len (textR zb)
  have lb2 := textR_count zb
  have hg : Hid (∀ c ∈ (34 :: (bodyQ (textR za) ++ (bodyQ (textR zb) ++ [34])) : List UInt8), 32 ≤ c.toNat) := by
    intro c hc
    simp only [List.mem_cons, List.mem_append, List.not_mem_nil, or_false] at hc
    rcases hc with rfl | hc | hc | rfl
    · decide
    · exact body_ge c hc
    · exact body_ge c hc
    · decide
  have hla : (bodyQ (textR za)).length ≤ 1200 := by omega
  have hlb : (bodyQ (textR zb)).length ≤ 1200 := by omega
  generalize bodyQ (textR za) = A at *
  generalize bodyQ (textR zb) = B at *
  generalize flat (textR za) = S at *
  generalize flat (textR zb) = T at *
  clear hva hvb la1 la2 lb1 lb2
  have HEQ : Hid (((⟨(34 :: (A ++ [34])).toArray⟩ : ByteArray).extract 0 (A.length + 1)) ++ ((⟨(34 :: (B ++ [34])).toArray⟩ : ByteArray).extract 1 (⟨(34 :: (B ++ [34])).toArray⟩ : ByteArray).size) = ⟨(34 :: (A ++ (B ++ [34]))).toArray⟩) := by
    show _ = _
    apply ByteArray.ext
    apply Array.ext'
    rw [ByteArray.data_append, Array.toList_append, ext_drop, bs_take]
    rw [show (34 :: (A ++ [34]) : List UInt8).take (A.length + 1) = 34 :: A by rw [List.take_succ_cons, List.take_left]]
    simp
  generalize hU : (34 :: (A ++ (B ++ [34])) : List UInt8) = U at *
  have hUl : U.length = A.length + B.length + 2 := by rw [← hU]; simp; omega
  have HUL := Lib.hid hUl
  have hUs : (⟨U.toArray⟩ : ByteArray).size ≤ 3000 := by rw [bs_size]; omega
  have GE := Lib.hid (all_ge hg.out)
  generalize (⟨U.toArray⟩ : ByteArray) = X at *
  have hsa : (34 :: (A ++ [34]) : List UInt8).length = A.length + 2 := by simp
  have hsb : (34 :: (B ++ [34]) : List UInt8).length = B.length + 2 := by simp
  have HSA : Hid ((⟨(34 :: (A ++ [34])).toArray⟩ : ByteArray).size = A.length + 2) := by show _ = _; rw [bs_size]; exact hsa
  have HSB : Hid ((⟨(34 :: (B ++ [34])).toArray⟩ : ByteArray).size = B.length + 2) := by show _ = _; rw [bs_size]; exact hsb
  generalize (⟨(34 :: (A ++ [34])).toArray⟩ : ByteArray) = SA at *
  generalize (⟨(34 :: (B ++ [34])).toArray⟩ : ByteArray) = SB at *
  have sa0 : 2 ≤ SA.size := by rw [HSA.out]; omega
  have sa1 : SA.size ≤ 1202 := by rw [HSA.out]; omega
  have sb0 : 2 ≤ SB.size := by rw [HSB.out]; omega
  have sb1 : SB.size ≤ 1202 := by rw [HSB.out]; omega
  have HEQ2 : Hid (SA.extract 0 (SA.size - 1) ++ SB.extract 1 SB.size = X) := by
    show _ = _
    rw [← HEQ.out, HSA.out]; rfl
  clear hU hUl hsa hsb
  go_enter Try.func6, Try.ntmps6
  go_wp2_with (go_at_call 10; (with_reducible refine (awake_any _).mono ?_); rintro e w1 ⟨rfl, hb1⟩)
  go_wp2_with (go_at_call 11; (with_reducible refine (TXA.out _ (HVA.out.below hb1)).mono ?_); rintro e w2 ⟨rfl, hb2⟩)
  have c2 := below2 hb1 hb2
  clear hb1 hb2
  go_wp2_with (go_at_call 14; (with_reducible refine (QA.out _).mono ?_); rintro e w3 ⟨rfl, hb3⟩)
  have c3 := below2 c2 hb3
  clear c2 hb3
  go_wp2_with (go_at_call 11; (with_reducible refine (TXB.out _ (HVB.out.below c3)).mono ?_); rintro e w4 ⟨rfl, hb4⟩)
  have c4 := below2 c3 hb4
  clear c3 hb4
  go_wp2_with (go_at_call 14; (with_reducible refine (QB.out _).mono ?_); rintro e w5 ⟨rfl, hb5⟩)
  have c5 := below2 c4 hb5
  clear c4 hb5
  go_wp2_with (go_at_call 11; (with_reducible refine (TXA.out _ (HVA.out.below c5)).mono ?_); rintro e w6 ⟨rfl, hb6⟩)
  have c6 := below2 c5 hb6
  clear c5 hb6
  go_wp2_with (go_at_call 11; (with_reducible refine (TXB.out _ (HVB.out.below c6)).mono ?_); rintro e w7 ⟨rfl, hb7⟩)
  have c7 := below2 c6 hb7
  clear c6 hb7
  go_wp2_with (go_at_call 14; (with_reducible refine (QC.out _).mono ?_); rintro e w8 ⟨rfl, hb8⟩)
  have c8 := below2 c7 hb8
  clear c7 hb8
  go_loop [12] (fun iv => ∃ k : Nat, k ≤ X.size ∧ iv = .int .i64 k) (fun iv => X.size - (intOf iv).toNat)
  case atStart => exact ⟨0, by omega, rfl⟩
  case round =>
    obtain ⟨k, hk, rfl⟩ := hrel
    by_cases hlt : k < X.size
    · have hge := GE.out k hlt
      go_wp2_with fail
      go_round
      case rel => exact ⟨k + 1, by omega, by go_num⟩
      case measure => simp [intOf]; omega
    · have hn1 : IntKind.i64.wrap ((SA.size : Int) - 1) = (SA.size : Int) - 1 := IntWalk.i64_in _ (by omega)
      have hn2 : 0 ≤ (SA.size : Int) - 1 := by omega
      have hn3 : ((SA.size : Int) - 1).toNat = SA.size - 1 := by omega
      go_wp2_with fail
      go_quiet (fail)
      go_wp2_with fail
      go_ret
      exact ⟨ret_bool (by rw [HEQ2.out]; simp), below_drewN c8 _⟩
end Go.Proofs.Ytfkdepjioleakaa
