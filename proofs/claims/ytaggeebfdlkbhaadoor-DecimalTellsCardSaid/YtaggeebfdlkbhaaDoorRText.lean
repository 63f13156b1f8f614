/- Contracts of text, parts and Compare of the document's answer. -/
import Derived.Test.YtaggeebfdlkbhaaDoorCompare
import Derived.Laws.IdiomStrings
set_option linter.unusedSimpArgs false
set_option linter.unusedVariables false
namespace Go.Proofs.YtaggeebfdlkbhaaDoor
open Go.RowKit Go.Sort

/-- The text in a slot. -/
def strOf : Value → ByteArray | .string s => s | _ => ⟨#[]⟩

theorem conv_int (W : World) (y : Int) (h0 : 0 ≤ y) (h1 : y < 10) (cap : Nat) :
    (convert 41 9 (.slice (some ⟨W.heap.size, 0, none⟩) 1 cap)).run Tryd.prog (W.alloc (.cells #[.int .u8 (48 + y)] 5)) = .ok (.string ⟨[UInt8.ofNat (48 + y.toNat)].toArray⟩) (W.alloc (.cells #[.int .u8 (48 + y)] 5)) := by
  have hb : ((UInt8.ofNat (48 + y.toNat)).toNat : Int) = 48 + y := by
    have : (UInt8.ofNat (48 + y.toNat)).toNat = 48 + y.toNat := by simp; omega
    omega
  have := run_convert_bytes_back (P := Tryd.prog) (W.alloc (.cells #[.int .u8 (48 + y)] 5)) 41 9 5 ⟨W.heap.size, 0, none⟩ cap [UInt8.ofNat (48 + y.toNat)] Tryd.underlying41 Tryd.underlying5 Tryd.underlying9 (fun j hj => by
    have hj0 : j = 0 := by simp at hj; omega
    subst hj0
    simp only [List.getElem_cons_zero]
    rw [hb]
    simp [Addr.add])
  exact this

set_option maxHeartbeats 1000000 in
set_option maxRecDepth 10000 in
theorem text_int (N : Nat) : ∀ (n : Int) (w : World), 0 ≤ n → n.toNat < N → n ≤ 1000000000000000000 →
    Calls Tryd.prog 37 #[.int .i64 n] w (Ret (.string ⟨(Lib.decDigits n.toNat).toArray⟩) w) := by
  induction N with
  | zero => intro n w h0 hN; omega
  | succ N ih =>
    intro n w h0 hN h1
    have hd : n % 10 < 10 := by omega
    have hd0 : 0 ≤ n % 10 := by omega
    have hcv := conv_int w (n % 10) hd0 hd 1
    have HCV := Lib.hid hcv
    have IH := Lib.hid ih
    clear hcv ih
    have hcs : Hid (UInt8.ofNat (48 + (n % 10).toNat) = UInt8.ofNat (48 + n.toNat % 10)) := by show _ = _; rw [show (n % 10).toNat = n.toNat % 10 by omega]
    generalize hcc : UInt8.ofNat (48 + (n % 10).toNat) = c at *
    have HCC := Lib.hid hcc
    clear hcc
    by_cases h10 : 10 ≤ n
    · have hr : Lib.decDigits n.toNat = Lib.decDigits (n / 10).toNat ++ [c] := by
        rw [Lib.decDigits, dif_neg (by omega), hcs.out, show (n / 10).toNat = n.toNat / 10 by omega]
      rw [hr]
      have hl : (Lib.decDigits (n / 10).toNat).length ≤ 40 := by
        rw [Lib.decDigits_length]
        have := nDigits_le 18 (n / 10).toNat (by omega)
        omega
      clear hcs HCC hr
      go_enter Tryd.func37, Tryd.ntmps37
      go_wp2_with fail
      rw [HCV.out]
      clear HCV
      go_wp2_with fail
      (with_reducible refine (IH.out _ _ (by omega) (by omega) (by omega)).mono ?_)
      rintro e1 w1 ⟨rfl, hb⟩
      have hbb := below_call hb
      clear hb IH
      generalize Lib.decDigits (n / 10).toNat = L at *
      go_wp2_with fail
      go_ret
      exact ⟨ret_str (bs_append L [c]), hbb⟩
    · have hr : Lib.decDigits n.toNat = [c] := by
        rw [Lib.decDigits, dif_pos (by omega), ← HCC.out, show (n % 10).toNat = n.toNat by omega]
      rw [hr]
      clear hcs HCC hr IH
      go_enter Tryd.func37, Tryd.ntmps37
      go_wp2_with fail
      rw [HCV.out]
      clear HCV
      go_wp2_with fail
      go_ret
      exact ⟨rfl, (Below.refl _ _).alloc (Nat.le_refl _) _⟩

theorem zeros_snoc' (j : Nat) : zeros (j + 1) = zeros j ++ [48] := by unfold zeros; rw [List.replicate_succ']
theorem app_data' (a b : ByteArray) : (a ++ b).data.toList = a.data.toList ++ b.data.toList := by simp
theorem ba_eq {a : ByteArray} {l : List UInt8} (h : a.data.toList = l) : a = ⟨l.toArray⟩ := by
  subst h; exact (Lib.mk_data a).symm

/-- A value's digits, forty of them. -/
def partsL (m e : Int) : List UInt8 := zeros (40 - (Lib.decDigits m.natAbs).length - (e + 9).toNat) ++ (Lib.decDigits m.natAbs ++ zeros (e + 9).toNat)

set_option maxHeartbeats 1000000 in
theorem parts_any (m e : Int) (w : World) (hr : rightB m e = true) :
    Calls Tryd.prog 39 #[.agg #[.int .i64 m, .int .i64 e]] w (Ret (.string ⟨(partsL m e).toArray⟩) w) := by
  obtain ⟨b1, b2, b3, b4⟩ := rightB_bounds hr
  have hl := decDigits_le b1 b2
  have hp : partsL m e = zeros (40 - (Lib.decDigits m.natAbs).length - (e + 9).toNat) ++ (Lib.decDigits m.natAbs ++ zeros (e + 9).toNat) := rfl
  generalize partsL m e = res at *
  have HP := Lib.hid hp
  have TX := Lib.hid (fun w => text_int (m.natAbs + 1) (max m (-m)) w (by omega) (by omega) (by omega))
  rw [show (max m (-m)).toNat = m.natAbs by omega] at TX
  generalize Lib.decDigits m.natAbs = D at *
  obtain ⟨k, hk⟩ := Int.eq_ofNat_of_zero_le (a := e + 9) (by omega)
  have HK := Lib.hid hk
  have hk1 : e + 9 ≤ k := by omega
  have hk2 : (k : Int) ≤ e + 9 := by omega
  have hk3 : k ≤ 18 := by omega
  clear hp hk hr
  go_enter Tryd.func39, Tryd.ntmps39
  go_wp2_with fail
  (with_reducible refine (TX.out _).mono ?_)
  rintro e1 w1 ⟨rfl, hb1⟩
  have P := (DecAt.new w m e _).below hb1
  have hbb := below_call hb1
  obtain ⟨p0, p1, pf, pl⟩ := P
  clear hb1 TX
  go_wp2_with fail
  go_loop [3, 4] (fun s i => ∃ (j : Nat) (tb : ByteArray), i = .int .i64 j ∧ s = .string tb ∧ j ≤ k ∧ tb.size ≤ 16 + j ∧ Hid (tb.data.toList = D ++ zeros j)) (fun _ i => k - (intOf i).toNat)
  case atStart =>
    refine ⟨0, _, rfl, rfl, by omega, ?_, by show _ = _; simp [zeros]⟩
    have : (⟨D.toArray⟩ : ByteArray).size = D.length := List.size_toArray
    omega
  case round =>
    obtain ⟨j, tb, rfl, rfl, hj, htz, htb⟩ := hrel
    by_cases hjk : j < k
    · go_wp2_with fail
      go_round
      case rel => exact ⟨j + 1, tb ++ ⟨#[48]⟩, by go_num, rfl, by omega, by rw [ByteArray.size_append]; show _ + 1 ≤ _; omega, by show _ = _; rw [app_data', htb.out, zeros_snoc', ← List.append_assoc]⟩
      case measure => simp [intOf]; omega
    · have hjk2 : j = k := by omega
      have HT : Hid (tb.data.toList = D ++ zeros k) := by rw [← hjk2]; exact htb
      have hts : tb.size = D.length + k := by
        have : tb.size = tb.data.toList.length := rfl
        rw [this, HT.out, List.length_append, zeros_length]
      have HTS := Lib.hid hts
      clear hts hjk2 htb
      go_wp2_with fail
      go_loop [3] (fun s => ∃ (z : Nat) (ub : ByteArray), s = .string ub ∧ ub.size ≤ 40 ∧ Hid (ub.data.toList = zeros z ++ (D ++ zeros k))) (fun s => 40 - (strOf s).size)
      case atStart => exact ⟨0, tb, rfl, by omega, by show _ = _; rw [HT.out]; simp [zeros]⟩
      case round =>
        obtain ⟨z, ub, rfl, huz, hub⟩ := hrel
        by_cases hz : ub.size < 40
        · go_wp2_with fail
          go_round
          case rel => exact ⟨z + 1, ⟨#[48]⟩ ++ ub, rfl, by rw [ByteArray.size_append]; show 1 + _ ≤ _; omega, by show _ = _; rw [app_data', hub.out]; rfl⟩
          case measure =>
            show 40 - ((⟨#[48]⟩ : ByteArray) ++ ub).size < 40 - ub.size
            rw [ByteArray.size_append]
            have : (⟨#[48]⟩ : ByteArray).size = 1 := rfl
            omega
        · have hfin : ub = ⟨res.toArray⟩ := by
            apply ba_eq
            rw [hub.out, HP.out]
            have hs2 : ub.size = z + (D.length + k) := by
              have : ub.size = ub.data.toList.length := rfl
              rw [this, hub.out, List.length_append, List.length_append, zeros_length, zeros_length]
            rw [show (e + 9).toNat = k by omega, show 40 - D.length - k = z by omega]
          have HF := Lib.hid hfin
          clear hfin
          go_wp2_with fail
          go_ret
          exact ⟨ret_str HF.out, hbb⟩
end Go.Proofs.YtaggeebfdlkbhaaDoor
