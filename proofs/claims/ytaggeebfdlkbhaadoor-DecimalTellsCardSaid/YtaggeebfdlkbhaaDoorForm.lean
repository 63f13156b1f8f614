/- The contract of form: the form of a numeral's value. -/
import Derived.Test.YtaggeebfdlkbhaaDoorPower
namespace Go.Proofs.YtaggeebfdlkbhaaDoor
open Go.RowKit Go.Sort

def Digs (l : List UInt8) : Prop := ∀ c ∈ l, isDig c = true
theorem dig_le {c : UInt8} (h : isDig c = true) : 48 ≤ c.toNat ∧ c.toNat ≤ 57 := by
  unfold isDig at h; simp at h; omega
theorem valD_lt (l : List UInt8) (h : Digs l) : valD l < 10 ^ l.length := by
  have : ∀ (l : List UInt8) (a n : Nat), Digs l → a < 10 ^ n → l.foldl (fun p c => p * 10 + (c.toNat - 48)) a < 10 ^ (n + l.length) := by
    intro l
    induction l with
    | nil => intro a n _ h; exact h
    | cons c l ih =>
      intro a n hd h
      have h1 := dig_le (hd c (by simp))
      simp only [List.foldl_cons, List.length_cons]
      have := ih (a * 10 + (c.toNat - 48)) (n + 1) (fun x hx => hd x (by simp [hx])) (by rw [Nat.pow_succ]; omega)
      rw [show n + (l.length + 1) = n + 1 + l.length by omega]
      exact this
  have h2 := this l 0 0 h (by decide)
  simpa [valD] using h2
theorem Digs.take {l : List UInt8} (h : Digs l) (k : Nat) : Digs (l.take k) := fun c hc => h c (List.mem_of_mem_take hc)
theorem valD_take_lt {l : List UInt8} (h : Digs l) {k n : Nat} (hk : k ≤ n) : valD (l.take k) < 10 ^ n := by
  have h1 := valD_lt _ (h.take k)
  have h2 : (l.take k).length ≤ n := by simp; omega
  exact Nat.lt_of_lt_of_le h1 (Nat.pow_le_pow_right (by decide) h2)
theorem digs_byte {l : List UInt8} (h : Digs l) (k : Nat) (hk : k < (⟨l.toArray⟩ : ByteArray).size) : 48 ≤ ((⟨l.toArray⟩ : ByteArray)[k].toNat : Int) ∧ ((⟨l.toArray⟩ : ByteArray)[k].toNat : Int) ≤ 57 := by
  have hk' : k < l.length := by have : l.toArray.size = l.length := List.size_toArray; rw [← this]; exact hk
  have h1 : (⟨l.toArray⟩ : ByteArray)[k] = l[k] := rfl
  rw [h1]
  have := dig_le (h _ (List.getElem_mem hk'))
  omega
theorem valD_byte (s : ByteArray) (k : Nat) (hk : k < s.size) : (valD (s.data.toList.take (k + 1)) : Int) = valD (s.data.toList.take k) * 10 + ((s[k].toNat - 48 : Nat) : Int) := by
  rw [List.take_succ_eq_append_getElem (by simpa using hk), valD_snoc]
  have : s.data.toList[k]'(by simpa using hk) = s[k] := rfl
  rw [this]
  omega

theorem triml_any (l : List UInt8) (w : World) :
    Calls Tryd.prog 43 #[.string ⟨l.toArray⟩, .string ⟨#[48]⟩] w fun e w' => e = .returned (.string ⟨(Lib.trimLeftB l 48).toArray⟩) ∧ w = w' :=
  (Tryd.strings_TrimLeft_one ⟨l.toArray⟩ 48 (by decide) w).mono fun _ _ ⟨he, hw⟩ => ⟨he, hw.symm⟩
theorem trimr_any (l : List UInt8) (w : World) (hl : l.length ≤ 1000) :
    Calls Tryd.prog 44 #[.string ⟨l.toArray⟩, .string ⟨#[48]⟩] w fun e w' => e = .returned (.string ⟨(Lib.trimRightB l 48).toArray⟩) ∧ w = w' :=
  (Tryd.strings_TrimRight_one ⟨l.toArray⟩ 48 (by decide) w (by have : (⟨l.toArray⟩ : ByteArray).size = l.length := List.size_toArray; omega)).mono fun _ _ ⟨he, hw⟩ => ⟨he, hw.symm⟩
theorem triml_len (l : List UInt8) : (Lib.trimLeftB l 48).length ≤ l.length := (List.dropWhile_suffix _).length_le
theorem trimr_len (l : List UInt8) : (Lib.trimRightB l 48).length ≤ l.length := by
  unfold Lib.trimRightB
  have := (List.dropWhile_suffix (l := l.reverse) (· == (48 : UInt8))).length_le
  simpa using this
theorem triml_digs {l : List UInt8} (h : Digs l) : Digs (Lib.trimLeftB l 48) := fun c hc => h c ((List.dropWhile_suffix _).mem hc)
theorem trimr_digs {l : List UInt8} (h : Digs l) : Digs (Lib.trimRightB l 48) := fun c hc => by
  unfold Lib.trimRightB at hc
  rw [List.mem_reverse] at hc
  have := (List.dropWhile_suffix (l := l.reverse) (· == (48 : UInt8))).mem hc
  exact h c (List.mem_reverse.1 this)

def sgn (neg : Bool) (n : Int) : Int := if neg = true then -n else n
/-- What form makes of a numeral. -/
def formS (neg : Bool) (fl : Nat) (p : Int) (A F : List UInt8) : Int × Int × Bool :=
  if 18 < F.length then (0, 0, false) else mk (sgn neg (valD F)) (p - fl + A.length - F.length)

set_option maxHeartbeats 1000000 in
theorem form_any (neg : Bool) (W Fr : List UInt8) (p : Int) (w : World) (hl : W.length + Fr.length ≤ 400) (hd : Digs (W ++ Fr)) (hp0 : -1000 ≤ p) (hp1 : p ≤ 1000)
    (A F : List UInt8) (HA : Hid (Lib.trimLeftB (W ++ Fr) 48 = A)) (HF : Hid (Lib.trimRightB A 48 = F)) :
    Calls Tryd.prog 31 #[.agg #[.bool neg, .string ⟨W.toArray⟩, .string ⟨Fr.toArray⟩, .int .i64 p]] w (Ret (mkV (formS neg Fr.length p A F)) w) := by
  have hAl : A.length ≤ 400 := by have := triml_len (W ++ Fr); rw [HA.out] at this; simp at this; omega
  have hFl : F.length ≤ 400 := by have := trimr_len A; rw [HF.out] at this; omega
  have hdF : Digs F := by rw [← HF.out, ← HA.out]; exact trimr_digs (triml_digs hd)
  have HD := Lib.hid hdF
  have HDB := Lib.hid (digs_byte hdF)
  clear hdF hd
  have n1 : ¬ 9223372036854775807 < W.length + Fr.length := by omega
  go_enter Tryd.func31, Tryd.ntmps31
  go_wp2_with fail
  rw [bs_append]
  (with_reducible refine (triml_any _ _).mono ?_)
  rintro e1 w1 ⟨rfl, rfl⟩
  rw [HA.out]
  go_wp2_with fail
  (with_reducible refine (trimr_any _ _ (by omega)).mono ?_)
  rintro e1 w1 ⟨rfl, rfl⟩
  rw [HF.out]
  by_cases h18 : 18 < F.length
  · have a1 : formS neg Fr.length p A F = (0, 0, false) := by unfold formS; rw [if_pos h18]
    have A1 := Lib.hid a1
    clear a1
    go_wp2
    rw [A1.out]
    exact bodyPost_ret (v := mkV (0, 0, false)) (by simp [mkV, results, Tryd.results31, go_sem]) rfl ⟨rfl, ((Below.refl _ _).alloc (Nat.le_refl _) _).alloc (by simp) _⟩
  · go_wp2
    generalize hfb : (⟨F.toArray⟩ : ByteArray) = fb at *
    have hz1 : fb.size ≤ F.length := by rw [← hfb]; exact Nat.le_of_eq List.size_toArray
    have hz2 : F.length ≤ fb.size := by rw [← hfb]; exact Nat.le_of_eq List.size_toArray.symm
    have hfl : fb.data.toList = F := by rw [← hfb]
    have HFL := Lib.hid hfl
    clear hfb hfl
    go_loop [6, 22] (fun a i => ∃ (k : Nat) (q : Int), k ≤ F.length ∧ i = .int .i64 k ∧ a = .int .i64 q ∧ 0 ≤ q ∧ q < 1000000000000000000 ∧ Hid (q = valD (F.take k))) (fun _ i => F.length - (intOf i).toNat)
    case atStart => exact ⟨0, 0, by omega, rfl, rfl, by omega, by omega, by show (0 : Int) = _; simp [valD]⟩
    case round =>
      obtain ⟨k, q, hk, rfl, rfl, hq0, hq1, hq⟩ := hrel
      by_cases hlt : k < F.length
      · have hk2 : k < fb.size := by omega
        obtain ⟨y1, y2⟩ := HDB.out k hk2
        have hcb := valD_byte fb k hk2
        rw [HFL.out] at hcb
        have HCB := Lib.hid hcb
        clear hcb
        have hq2 : q < 100000000000000000 := by
          have := valD_take_lt HD.out (k := k) (n := 17) (by omega)
          have h3 := hq.out
          omega
        go_wp2
        go_round
        case rel => exact ⟨k + 1, q * 10 + ((fb[k].toNat : Int) - 48), by omega, by go_num, rfl, by omega, by omega, by show _ = _; rw [HCB.out, ← hq.out]; omega⟩
        case measure => simp [intOf]; omega
      · have hqe : q = valD F := by rw [hq.out, List.take_of_length_le (by omega)]
        have HQE := Lib.hid hqe
        clear hqe
        have a1 : formS neg Fr.length p A F = mk (sgn neg q) (p - Fr.length + A.length - F.length) := by unfold formS; rw [if_neg h18, HQE.out]
        have A1 := Lib.hid a1
        clear a1
        have hfz : (fb.size : Int) = F.length := by omega
        have HFZ := Lib.hid hfz
        clear hfz
        rcases neg with _ | _
        · go_wp2_with fail
          (with_reducible refine (make_any _ _ _ (by omega) (by omega) (by omega)).mono ?_)
          rintro e1 w1 ⟨rfl, hb⟩
          have a2 : mk q (p - Fr.length + A.length - fb.size) = formS false Fr.length p A F := by rw [A1.out, HFZ.out]; rfl
          rw [a2]
          clear a2 A1
          generalize formS false Fr.length p A F = res at *
          obtain ⟨r1, r2, r3⟩ := res
          unfold mkV at *
          obtain ⟨hc, hf⟩ := bcell hb
          have hz : w.heap.size + 1 < w1.heap.size := by have := hb.size; simp at this; omega
          have hbb := below_call (below_call hb)
          clear hb
          go_wp2
          exact bodyPost_ret (v := mkV (r1, r2, r3)) (by simp [mkV, results, Tryd.results31, go_sem, hc]) rfl ⟨rfl, by repeat (first | exact hbb | refine Below.setCell ?_ (by simp) _)⟩
        · go_wp2_with fail
          (with_reducible refine (make_any _ _ _ (by omega) (by omega) (by omega)).mono ?_)
          rintro e1 w1 ⟨rfl, hb⟩
          have a2 : mk (-q) (p - Fr.length + A.length - fb.size) = formS true Fr.length p A F := by rw [A1.out, HFZ.out]; rfl
          rw [a2]
          clear a2 A1
          generalize formS true Fr.length p A F = res at *
          obtain ⟨r1, r2, r3⟩ := res
          unfold mkV at *
          obtain ⟨hc, hf⟩ := bcell hb
          have hz : w.heap.size + 1 < w1.heap.size := by have := hb.size; simp at this; omega
          have hbb := below_call (below_call hb)
          clear hb
          go_wp2
          exact bodyPost_ret (v := mkV (r1, r2, r3)) (by simp [mkV, results, Tryd.results31, go_sem, hc]) rfl ⟨rfl, by repeat (first | exact hbb | refine Below.setCell ?_ (by simp) _)⟩
end Go.Proofs.YtaggeebfdlkbhaaDoor
