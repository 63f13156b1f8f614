/- The contract of readPower: the power of ten, no farther than 1000 to either side. -/
import Derived.Test.YtaggeebfdlkbhaaDoorCut
namespace Go.Proofs.YtaggeebfdlkbhaaDoor
open Go.RowKit Go.Sort

def pre (l : List UInt8) (c : UInt8) : Bool := match l with | x :: _ => x == c | [] => false
def cutp (l : List UInt8) (c : UInt8) : List UInt8 := if pre l c = true then l.tail else l
theorem pre_eq (l : List UInt8) (c : UInt8) : Lib.hasPrefix l [c] = pre l c := by
  unfold Lib.hasPrefix pre
  cases l with
  | nil => rfl
  | cons x l =>
    show (c == x && true) = (x == c)
    rw [Bool.and_true]
    exact BEq.comm
theorem cutp_eq (l : List UInt8) (c : UInt8) : Lib.trimPrefix l [c] = cutp l c := by
  unfold Lib.trimPrefix cutp
  rw [pre_eq]
  cases l <;> simp
theorem cutp_len (l : List UInt8) (c : UInt8) : (cutp l c).length ≤ l.length := by
  unfold cutp; split <;> simp

theorem cutp_any (l : List UInt8) (c : UInt8) (w : World) :
    Calls Tryd.prog 40 #[.string ⟨l.toArray⟩, .string ⟨#[c]⟩] w fun e w' => e = .returned (.tuple #[.string ⟨(cutp l c).toArray⟩, .bool (pre l c)]) ∧ w = w' :=
  (Tryd.strings_CutPrefix ⟨l.toArray⟩ ⟨#[c]⟩ w).mono fun _ _ ⟨he, hw⟩ => ⟨by rw [he, ← cutp_eq, ← pre_eq], hw.symm⟩
theorem trimp_any (l : List UInt8) (c : UInt8) (w : World) :
    Calls Tryd.prog 54 #[.string ⟨l.toArray⟩, .string ⟨#[c]⟩] w fun e w' => e = .returned (.string ⟨(cutp l c).toArray⟩) ∧ w = w' :=
  (Tryd.strings_TrimPrefix ⟨l.toArray⟩ ⟨#[c]⟩ w).mono fun _ _ ⟨he, hw⟩ => ⟨by rw [he, ← cutp_eq], hw.symm⟩

/-- The number that digits tell. -/
def valD (l : List UInt8) : Nat := l.foldl (fun p c => p * 10 + (c.toNat - 48)) 0
def capD (l : List UInt8) : Nat := l.foldl (fun p c => min (p * 10 + (c.toNat - 48)) 1000) 0
theorem valD_snoc (l : List UInt8) (c : UInt8) : valD (l ++ [c]) = valD l * 10 + (c.toNat - 48) := by simp [valD]
theorem capD_snoc (l : List UInt8) (c : UInt8) : capD (l ++ [c]) = min (capD l * 10 + (c.toNat - 48)) 1000 := by simp [capD]
theorem cap_fold (l : List UInt8) (a b : Nat) (h : b = min a 1000) : l.foldl (fun p c => min (p * 10 + (c.toNat - 48)) 1000) b = min (l.foldl (fun p c => p * 10 + (c.toNat - 48)) a) 1000 := by
  induction l generalizing a b with
  | nil => exact h
  | cons c l ih => simp only [List.foldl_cons]; exact ih _ _ (by omega)
theorem capD_eq (l : List UInt8) : capD l = min (valD l) 1000 := cap_fold l 0 0 rfl

/-- Byte k of a text, as the walk has it, and what was told ahead of it. -/
theorem capD_byte (s : ByteArray) (k : Nat) (hk : k < s.size) : (capD (s.data.toList.take (k + 1)) : Int) = min (capD (s.data.toList.take k) * 10 + ((s[k].toNat - 48 : Nat) : Int)) 1000 := by
  rw [List.take_succ_eq_append_getElem (by simpa using hk), capD_snoc]
  have : s.data.toList[k]'(by simpa using hk) = s[k] := rfl
  rw [this]
  omega
theorem headD_byte (l : List UInt8) (k : Nat) (hk : k < (⟨(headD l).toArray⟩ : ByteArray).size) : 48 ≤ ((⟨(headD l).toArray⟩ : ByteArray)[k].toNat : Int) ∧ ((⟨(headD l).toArray⟩ : ByteArray)[k].toNat : Int) ≤ 57 := by
  have hk' : k < (headD l).length := by have : (headD l).toArray.size = (headD l).length := List.size_toArray; rw [← this]; exact hk
  have h1 : (⟨(headD l).toArray⟩ : ByteArray)[k] = (headD l)[k] := rfl
  rw [h1]
  have h2 : (headD l)[k] ∈ headD l := List.getElem_mem hk'
  have h3 : isDig (headD l)[k] = true := by
    have := List.all_takeWhile (p := isDig) (l := l)
    rw [List.all_eq_true] at this
    exact this _ h2
  unfold isDig at h3
  simpa using h3

/-- The power that a text tells from its e on. -/
def powS (l : List UInt8) : Option Int :=
  match l with
  | [] => none
  | c :: r =>
    if c = 101 ∨ c = 69 then
      let t := if pre r 45 = true then cutp r 45 else cutp (cutp r 45) 43
      if headD t = [] ∨ restD t ≠ [] then none else some (if pre r 45 = true then -(valD (headD t) : Int) else valD (headD t))
    else none
/-- No farther than 1000 to either side. -/
def clampE (x : Int) : Int := max (-1000) (min x 1000)
theorem clampE_zero : clampE 0 = 0 := rfl
def powV (o : Option Int) : Value := match o with | none => .tuple #[.int .i64 0, .bool false] | some x => .tuple #[.int .i64 (clampE x), .bool true]

set_option maxHeartbeats 400000 in
theorem power_no (s : ByteArray) (w : World) (h0 : 0 < s.size) (h1 : ((s[0].toNat : Int) != 101) = true) (h2 : ((s[0].toNat : Int) != 69) = true) :
    Calls Tryd.prog 42 #[.string s] w (Ret (.tuple #[.int .i64 0, .bool false]) w) := by
  go_enter Tryd.func42, Tryd.ntmps42
  go_wp2_with fail
  go_ret2
  exact ⟨rfl, Below.refl _ _⟩

/-- From the sign on: both ways of it. -/
def PowPost (neg : Bool) (F R : List UInt8) : Value :=
  if (F.isEmpty || !R.isEmpty) = true then .tuple #[.int .i64 0, .bool false]
  else .tuple #[.int .i64 (if neg = true then -(capD F : Int) else capD F), .bool true]

theorem capD_le (l : List UInt8) : (capD l : Int) ≤ 1000 := by rw [capD_eq]; omega

set_option maxHeartbeats 1000000 in
theorem power_sign (s : ByteArray) (r : List UInt8) (w : World) (h0 : 0 < s.size) (hs : s.size ≤ 400) (hr : r.length ≤ 400) (hx : Hid (s.extract 1 s.size = ⟨r.toArray⟩))
    (hc : ((s[0].toNat : Int) != 101) = false ∨ (((s[0].toNat : Int) != 101) = true ∧ ((s[0].toNat : Int) != 69) = false))
    (neg : Bool) (HP : Hid (pre r 45 = neg)) (T F R : List UInt8) (HT : Hid ((if neg = true then cutp r 45 else cutp (cutp r 45) 43) = T)) (HF : Hid (headD T = F)) (HR : Hid (restD T = R)) :
    Calls Tryd.prog 42 #[.string s] w (Ret (PowPost neg F R) w) := by
  have hTl : T.length ≤ 400 := by
    have hl1 := cutp_len r 45
    have hl2 := cutp_len (cutp r 45) 43
    rw [← HT.out]; split <;> omega
  have hFl : F.length ≤ 400 := by
    have : (headD T).length ≤ T.length := nD_le T
    rw [← HF.out]; omega
  have hFb : ∀ k (hk : k < (⟨F.toArray⟩ : ByteArray).size), 48 ≤ ((⟨F.toArray⟩ : ByteArray)[k].toNat : Int) ∧ ((⟨F.toArray⟩ : ByteArray)[k].toNat : Int) ≤ 57 := by
    rw [← HF.out]; exact headD_byte T
  have HFB := Lib.hid hFb
  clear hFb
  rcases hc with hc | ⟨hc, hc2⟩
  all_goals
    rcases neg with _ | _
    · have HT2 : Hid (cutp (cutp r 45) 43 = T) := HT
      go_enter Tryd.func42, Tryd.ntmps42
      go_wp2_with fail
      rw [hx.out]
      (with_reducible refine (cutp_any _ _ _).mono ?_)
      rintro e1 w1 ⟨rfl, rfl⟩
      rw [HP.out]
      go_wp2_with fail
      (with_reducible refine (trimp_any _ _ _).mono ?_)
      rintro e1 w1 ⟨rfl, rfl⟩
      rw [HT2.out]
      go_wp2_with fail
      (with_reducible refine (cut_any _ _ (by omega)).mono ?_)
      rintro e1 w1 ⟨rfl, hb⟩
      rw [HF.out, HR.out]
      rcases hFe : F.isEmpty with _ | _
      · rcases hRe : R.isEmpty with _ | _
        · go_wp2
          go_ret2
          exact ⟨by unfold PowPost; rw [hFe, hRe]; rfl, hb⟩
        · go_wp2
          generalize hfb : (⟨F.toArray⟩ : ByteArray) = fb at *
          have hz1 : fb.size ≤ F.length := by rw [← hfb]; exact Nat.le_of_eq List.size_toArray
          have hz2 : F.length ≤ fb.size := by rw [← hfb]; exact Nat.le_of_eq List.size_toArray.symm
          have hfl : fb.data.toList = F := by rw [← hfb]
          have HFL := Lib.hid hfl
          clear hfb hfl
          go_loop [7, 40] (fun a i => ∃ (k : Nat) (p : Int), k ≤ F.length ∧ i = .int .i64 k ∧ a = .int .i64 p ∧ 0 ≤ p ∧ p ≤ 1000 ∧ Hid (p = capD (F.take k))) (fun _ i => F.length - (intOf i).toNat)
          case atStart => exact ⟨0, 0, by omega, rfl, rfl, by omega, by omega, by show (0 : Int) = _; simp [capD]⟩
          case round =>
            obtain ⟨k, p, hk, rfl, rfl, hp0, hp1, hp⟩ := hrel
            by_cases hlt : k < F.length
            · have hk2 : k < fb.size := by omega
              obtain ⟨y1, y2⟩ := HFB.out k hk2
              have hcb := capD_byte fb k hk2
              rw [HFL.out] at hcb
              have HCB := Lib.hid hcb
              clear hcb
              go_wp2
              go_round
              case rel => exact ⟨k + 1, min (p * 10 + ((fb[k].toNat : Int) - 48)) 1000, by omega, by go_num, rfl, by omega, by omega, by show _ = _; rw [HCB.out, ← hp.out]; omega⟩
              case measure => simp [intOf]; omega
            · have hpe : p = capD F := by rw [hp.out, List.take_of_length_le (by omega)]
              have HPE := Lib.hid hpe
              clear hpe
              go_wp2
              go_ret2
              exact ⟨by unfold PowPost; rw [hFe, hRe, HPE.out]; rfl, hb⟩
      · go_wp2
        go_ret2
        exact ⟨by unfold PowPost; rw [hFe]; rfl, hb⟩
    · have HT2 : Hid (cutp r 45 = T) := HT
      go_enter Tryd.func42, Tryd.ntmps42
      go_wp2_with fail
      rw [hx.out]
      (with_reducible refine (cutp_any _ _ _).mono ?_)
      rintro e1 w1 ⟨rfl, rfl⟩
      rw [HP.out, HT2.out]
      go_wp2_with fail
      (with_reducible refine (cut_any _ _ (by omega)).mono ?_)
      rintro e1 w1 ⟨rfl, hb⟩
      rw [HF.out, HR.out]
      rcases hFe : F.isEmpty with _ | _
      · rcases hRe : R.isEmpty with _ | _
        · go_wp2
          go_ret2
          exact ⟨by unfold PowPost; rw [hFe, hRe]; rfl, hb⟩
        · go_wp2
          generalize hfb : (⟨F.toArray⟩ : ByteArray) = fb at *
          have hz1 : fb.size ≤ F.length := by rw [← hfb]; exact Nat.le_of_eq List.size_toArray
          have hz2 : F.length ≤ fb.size := by rw [← hfb]; exact Nat.le_of_eq List.size_toArray.symm
          have hfl : fb.data.toList = F := by rw [← hfb]
          have HFL := Lib.hid hfl
          clear hfb hfl
          go_loop [7, 40] (fun a i => ∃ (k : Nat) (p : Int), k ≤ F.length ∧ i = .int .i64 k ∧ a = .int .i64 p ∧ 0 ≤ p ∧ p ≤ 1000 ∧ Hid (p = capD (F.take k))) (fun _ i => F.length - (intOf i).toNat)
          case atStart => exact ⟨0, 0, by omega, rfl, rfl, by omega, by omega, by show (0 : Int) = _; simp [capD]⟩
          case round =>
            obtain ⟨k, p, hk, rfl, rfl, hp0, hp1, hp⟩ := hrel
            by_cases hlt : k < F.length
            · have hk2 : k < fb.size := by omega
              obtain ⟨y1, y2⟩ := HFB.out k hk2
              have hcb := capD_byte fb k hk2
              rw [HFL.out] at hcb
              have HCB := Lib.hid hcb
              clear hcb
              go_wp2
              go_round
              case rel => exact ⟨k + 1, min (p * 10 + ((fb[k].toNat : Int) - 48)) 1000, by omega, by go_num, rfl, by omega, by omega, by show _ = _; rw [HCB.out, ← hp.out]; omega⟩
              case measure => simp [intOf]; omega
            · have hpe : p = capD F := by rw [hp.out, List.take_of_length_le (by omega)]
              have HPE := Lib.hid hpe
              clear hpe
              go_wp2
              go_ret2
              exact ⟨by unfold PowPost; rw [hFe, hRe, HPE.out]; rfl, hb⟩
      · go_wp2
        go_ret2
        exact ⟨by unfold PowPost; rw [hFe]; rfl, hb⟩

theorem powPost_eq (c : UInt8) (r T : List UInt8) (hc : c = 101 ∨ c = 69) (hT : (if pre r 45 = true then cutp r 45 else cutp (cutp r 45) 43) = T) :
    PowPost (pre r 45) (headD T) (restD T) = powV (powS (c :: r)) := by
  unfold PowPost powS
  simp only [hc, if_true, hT]
  by_cases h : headD T = [] ∨ restD T ≠ []
  · rw [if_pos h, if_pos]
    · rfl
    · rcases h with h | h
      · simp [h]
      · rw [Bool.or_eq_true]; right; simpa using h
  · rw [if_neg h, if_neg]
    · unfold powV
      simp only [capD_eq]
      congr 3
      rw [Value.int.injEq]
      refine ⟨rfl, ?_⟩
      unfold clampE
      split <;> omega
    · intro h2
      apply h
      rw [Bool.or_eq_true] at h2
      rcases h2 with h2 | h2
      · left; simpa using h2
      · right; simpa using h2

theorem power_any (c : UInt8) (r : List UInt8) (w : World) (hl : (c :: r).length ≤ 400) :
    Calls Tryd.prog 42 #[.string ⟨(c :: r).toArray⟩] w (Ret (powV (powS (c :: r))) w) := by
  have hsz : (⟨(c :: r).toArray⟩ : ByteArray).size = (c :: r).length := List.size_toArray
  have h0 : 0 < (⟨(c :: r).toArray⟩ : ByteArray).size := by rw [hsz]; simp
  have hg : (⟨(c :: r).toArray⟩ : ByteArray)[0] = c := rfl
  have hrl : r.length ≤ 400 := by simp at hl; omega
  by_cases hc : c = 101 ∨ c = 69
  · rw [← powPost_eq c r _ hc rfl]
    refine power_sign _ r w h0 (by rw [hsz]; exact hl) hrl ?_ ?_ _ rfl _ _ _ rfl rfl rfl
    · show _ = _
      rw [hsz, bs_drop]
      rfl
    · rw [hg]
      rcases hc with rfl | rfl
      · left; decide
      · right; decide
  · have : powS (c :: r) = none := by unfold powS; simp only [hc, if_false]
    rw [this]
    refine power_no _ w h0 ?_ ?_
    · rw [hg, bne_iff_ne]
      intro h
      exact hc (.inl (UInt8.toNat_inj.1 (by show c.toNat = 101; omega)))
    · rw [hg, bne_iff_ne]
      intro h
      exact hc (.inr (UInt8.toNat_inj.1 (by show c.toNat = 69; omega)))
end Go.Proofs.YtaggeebfdlkbhaaDoor
