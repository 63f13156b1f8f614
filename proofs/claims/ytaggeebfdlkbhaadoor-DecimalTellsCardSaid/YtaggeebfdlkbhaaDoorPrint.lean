/- Contracts of Print, of the program and of the document's answer: both are printS. -/
import Derived.Test.YtaggeebfdlkbhaaDoorItoa
import Derived.Deep.QuietTactic
import Derived.BigQuiet
namespace Go.Proofs.YtaggeebfdlkbhaaDoor
open Go.RowKit Go.Sort

/-- The digits of a number below 1, filled with noughts ahead. -/
def figsL (m e : Int) : List UInt8 := zeros (1 - e - (Lib.decDigits m.natAbs).length).toNat ++ Lib.decDigits m.natAbs
def printS (m e : Int) : List UInt8 :=
  if rightB m e = true then
    if 0 ≤ e then Lib.itoa m ++ zeros e.toNat
    else (if m < 0 then [45] else []) ++ ((figsL m e).take ((figsL m e).length - (-e).toNat) ++ 46 :: (figsL m e).drop ((figsL m e).length - (-e).toNat))
  else []

theorem mixed : Tryd.prog.follows .mixedOrders = true := by kernel_rfl

theorem nDigits_le : ∀ (k u : Nat), u < 10 ^ (k + 1) → Lib.nDigits u ≤ k + 1
  | 0, u, h => by rw [Lib.nDigits_small (by omega)]; omega
  | k + 1, u, h => by
    by_cases hu : u < 10
    · rw [Lib.nDigits_small hu]; omega
    · rw [Lib.nDigits_big hu]
      have := nDigits_le k (u / 10) (by rw [Nat.pow_succ] at h; omega)
      omega
theorem decDigits_le {m : Int} (h0 : -1000000000000000 ≤ m) (h1 : m ≤ 1000000000000000) : (Lib.decDigits m.natAbs).length ≤ 16 := by
  rw [Lib.decDigits_length]
  exact nDigits_le 15 _ (by omega)
theorem itoa_length (m : Int) : (Lib.itoa m).length ≤ 1 + Lib.nDigits m.natAbs := by
  unfold Lib.itoa
  split
  · simp [Lib.decDigits_length]; omega
  · rw [Lib.decDigits_length, show m.toNat = m.natAbs by omega]; omega

set_option maxHeartbeats 400000 in
theorem print_no (m e : Int) (w : World) (hr : rightB m e = false) :
    Calls Tryd.prog 22 #[.agg #[.int .i64 m, .int .i64 e]] w (Ret (.string ⟨#[]⟩) w) := by
  go_enter Tryd.func22, Tryd.ntmps22
  go_wp2_with fail
  (with_reducible refine (right_any _ _ _).mono ?_)
  rintro e1 w1 ⟨rfl, hb⟩
  obtain ⟨hc, hf⟩ := bcell hb
  have hbb := below_call hb
  clear hb
  go_wp2
  go_ret
  exact ⟨rfl, hbb⟩

set_option maxHeartbeats 400000 in
theorem print_whole (m : Int) (x : Nat) (w : World) (ht : Tab w) (hr : rightB m x = true) (L : List UInt8) (hL : Hid (Lib.itoa m = L)) (hl : L.length ≤ 100) :
    Calls Tryd.prog 22 #[.agg #[.int .i64 m, .int .i64 x]] w (Ret (.string ⟨(L ++ zeros x).toArray⟩) w) := by
  obtain ⟨b1, b2, b3, b4⟩ := rightB_bounds hr
  have HT := Lib.hid ht
  clear ht
  go_enter Tryd.func22, Tryd.ntmps22
  go_wp2_with fail
  (with_reducible refine (right_any _ _ _).mono ?_)
  rintro e1 w1 ⟨rfl, hb⟩
  obtain ⟨hc, hf⟩ := bcell hb
  have hz : w.heap.size < w1.heap.size := by have := hb.size; simp at this; omega
  have c0 : w1.cell? ⟨w.heap.size, 0, none⟩ = some (.int .i64 m) := by rw [hc _ _ (by simp)]; simp
  have c1 : w1.cell? ⟨w.heap.size, 1, none⟩ = some (.int .i64 x) := by rw [hc _ _ (by simp)]; simp
  have ht1 : Tab w1 := (HT.out.alloc _).below hb
  have hbb := below_call hb
  clear hb hc hf
  have HT1 := Lib.hid ht1
  clear ht1
  have cI : ∀ d os, Calls Tryd.prog 34 #[.int .i64 m] (grow (redrawn w1 d) os) fun e w'' => e = .returned (.string ⟨L.toArray⟩) ∧ ∃ p : Regrown, w'' = grow (redrawn w1 p.d) p.os :=
    fun d os => Calls.regrown_of (hL.out ▸ itoa_any m _ (HT1.out.below (below_regrown w1 d os)) (by omega) (by omega))
  have cR : ∀ d os, Calls Tryd.prog 35 #[.string ⟨#[48]⟩, .int .i64 x] (grow (redrawn w1 d) os) fun e w'' => e = .returned (.string ⟨(zeros x).toArray⟩) ∧ ∃ p : Regrown, w'' = grow (redrawn w1 p.d) p.os :=
    fun d os => Calls.regrown_of (repeat_any x _ (by omega))
  have k0 := cell_regrown c0
  have k1 := cell_regrown c1
  have CI := Lib.hid cI
  have CR := Lib.hid cR
  clear cI cR
  have hzl : (zeros x).length ≤ 9 := by rw [zeros_length]; omega
  generalize zeros x = Z at *
  have n1 : ¬ 9223372036854775807 < L.length + Z.length := by omega
  go_wp2_with fail
  refine wp_region_quiet_below mixed (by kernel_rfl) ?_
  repeat (quiet_step (first | exact CI.out _ _ | exact CR.out _ _))
  refine wpQuiet_nil ?_
  intro _ hw'
  obtain ⟨⟨dq, osq⟩, hw''⟩ := hw'
  subst hw''
  go_wp2
  go_ret
  exact ⟨rfl, hbb.trans ((below_regrown w1 dq osq).mono hbb.size)⟩

theorem bs_append (a b : List UInt8) : (⟨a.toArray⟩ ++ ⟨b.toArray⟩ : ByteArray) = ⟨(a ++ b).toArray⟩ := by
  apply ByteArray.ext; simp

theorem bs_take (F : List UInt8) (p : Nat) : (⟨F.toArray⟩ : ByteArray).extract 0 p = ⟨(F.take p).toArray⟩ := by
  apply ByteArray.ext; simp
theorem bs_drop (F : List UInt8) (p : Nat) : (⟨F.toArray⟩ : ByteArray).extract p F.length = ⟨(F.drop p).toArray⟩ := by
  apply ByteArray.ext; simp [List.take_of_length_le]
theorem bs_two (a b : Array UInt8) : (⟨a⟩ ++ ⟨b⟩ : ByteArray) = ⟨a ++ b⟩ := by
  apply ByteArray.ext; simp
theorem ret_str {a b : ByteArray} (h : a = b) : Ending.returned (.string a) = .returned (.string b) := by rw [h]

set_option maxHeartbeats 400000 in
theorem print_point (m e : Int) (w : World) (ht : Tab w) (hr : rightB m e = true) (he : e < 0) (D : List UInt8) (hD : Hid (Lib.decDigits m.natAbs = D)) (hl : D.length ≤ 30) (S : List UInt8) (hS : Hid (S = if m < 0 then [45] else [])) :
    Calls Tryd.prog 22 #[.agg #[.int .i64 m, .int .i64 e]] w (Ret (.string ⟨(S ++ ((zeros (1 - e - D.length).toNat ++ D).take ((zeros (1 - e - D.length).toNat ++ D).length - (-e).toNat) ++ 46 :: (zeros (1 - e - D.length).toNat ++ D).drop ((zeros (1 - e - D.length).toNat ++ D).length - (-e).toNat))).toArray⟩) w) := by
  obtain ⟨b1, b2, b3, b4⟩ := rightB_bounds hr
  have HT := Lib.hid ht
  clear ht
  have HR := Lib.hid hr
  go_enter Tryd.func22, Tryd.ntmps22
  go_wp2_with fail
  (with_reducible refine (right_any _ _ _).mono ?_)
  rintro e1 w1 ⟨rfl, hb⟩
  obtain ⟨hc, hf⟩ := bcell hb
  have hz : w.heap.size < w1.heap.size := by have := hb.size; simp at this; omega
  have ht1 : Tab w1 := (HT.out.alloc _).below hb
  have hbb := below_call hb
  clear hb
  have HT1 := Lib.hid ht1
  clear ht1
  go_wp2_with fail
  (with_reducible refine (digits_any _ _ _ HT1.out (by omega) (by omega)).mono ?_)
  rintro e2 w2 ⟨rfl, hb2⟩
  rw [hD.out]
  have c0 : w2.cell? ⟨w.heap.size, 0, none⟩ = some (.int .i64 m) := by rw [(bcell hb2).1 _ _ hz, hc _ _ (by simp)]; simp
  have c1 : w2.cell? ⟨w.heap.size, 1, none⟩ = some (.int .i64 e) := by rw [(bcell hb2).1 _ _ hz, hc _ _ (by simp)]; simp
  have hz2 : w.heap.size < w2.heap.size := by have := hb2.size; omega
  have hbb2 : Below w.heap.size w w2 := hbb.trans (hb2.mono hbb.size)
  clear hc hf hb2
  by_cases hm : m < 0
  all_goals
    go_wp2_with fail
    (with_reducible refine (repeat_int _ _ (by omega) (by omega)).mono ?_)
    rintro e3 w3 ⟨rfl, hb3⟩
    have d1 : w3.cell? ⟨w.heap.size, 1, none⟩ = some (.int .i64 e) := by rw [(bcell hb3).1 _ _ hz2, c1]
    have hbb3 : Below w.heap.size w w3 := hbb2.trans (hb3.mono hbb2.size)
    clear c0 c1 hb3
    rw [show (max 0 (1 - e - (D.length : Int))).toNat = (1 - e - (D.length : Int)).toNat by omega]
    have hzl : (zeros (1 - e - (D.length : Int)).toNat).length ≤ 10 := by rw [zeros_length]; omega
    have hzg : -e < (zeros (1 - e - (D.length : Int)).toNat).length + D.length := by rw [zeros_length]; omega
    generalize zeros (1 - e - (D.length : Int)).toNat = Z at *
    go_wp2_with fail
    rw [bs_append, show ((Z.length : Int) + D.length + e) = (((Z ++ D).length - (-e).toNat : Nat) : Int) by simp; omega]
    have hp1 : (Z ++ D).length - (-e).toNat ≤ (Z ++ D).length := by omega
    have hp2 : (Z ++ D).length ≤ 40 := by simp; omega
    generalize (Z ++ D).length - (-e).toNat = p at *
    generalize Z ++ D = F at *
    clear hzg hzl
    go_quiet (fail)
    go_wp2
    go_ret
    refine ⟨ret_str ?_, below_drewN hbb3 _⟩
    rw [hS.out]
    first | rw [if_pos (by omega)] | rw [if_neg (by omega)]
    simp [bs_take, bs_drop, bs_two]

theorem print_any (m e : Int) (w : World) (ht : Tab w) :
    Calls Tryd.prog 22 #[.agg #[.int .i64 m, .int .i64 e]] w (Ret (.string ⟨(printS m e).toArray⟩) w) := by
  unfold printS
  rcases hr : rightB m e with _ | _
  · rw [if_neg (by simp)]
    exact print_no m e w hr
  · rw [if_pos rfl]
    obtain ⟨b1, b2, b3, b4⟩ := rightB_bounds hr
    have hl := decDigits_le b1 b2
    by_cases he : 0 ≤ e
    · rw [if_pos he]
      obtain ⟨x, rfl⟩ := Int.eq_ofNat_of_zero_le he
      have h2 := itoa_length m
      rw [Lib.decDigits_length] at hl
      exact print_whole m x w ht hr (Lib.itoa m) rfl (by omega)
    · rw [if_neg he]
      exact print_point m e w ht hr (by omega) _ rfl (by omega) _ rfl
end Go.Proofs.YtaggeebfdlkbhaaDoor
