import Derived.Test.YtnjcfnmdelpecaaTl
import Derived.Test.YtnjcfnmdelpecaaChecked
import Derived.Test.YtnjcfnmdelpecaaShelf
import Derived.WalkKit
import Derived.BigCall
import Derived.Lib.Hide
import Derived.Below
import Derived.ProofKit
import Derived.Deep.QuietTactic
import Derived.RegionTactic
import Derived.Laws.DeepStrings4
import Derived.Laws.BitsAllLaws
/- Layer 7: what is said of strings and calls; the contracts of pick, ofName, Name, ofKind, Print. -/
set_option linter.unusedVariables false
set_option linter.unusedSimpArgs false
namespace Go.Proofs.Ytnjcfnmdelpecaa.Tp
open Go.RowKit

/-- It returned a value, and all that was there is as it was. -/
def Ret (v : Value) (w : World) (e : Ending) (w' : World) : Prop := e = .returned v ∧ Below w.heap.size w w'
theorem ret_int {k : IntKind} {a b : Int} (h : a = b) : Ending.returned (.int k a) = .returned (.int k b) := by rw [h]
theorem ret_bool {a b : Bool} (h : a = b) : Ending.returned (.bool a) = .returned (.bool b) := by rw [h]
theorem ret_str {a b : ByteArray} (h : a = b) : Ending.returned (.string a) = .returned (.string b) := by rw [h]
theorem bs_append (a b : List UInt8) : (⟨a.toArray⟩ ++ ⟨b.toArray⟩ : ByteArray) = ⟨(a ++ b).toArray⟩ := by
  apply ByteArray.ext; simp
theorem bs_size (F : List UInt8) : (⟨F.toArray⟩ : ByteArray).size = F.length := List.size_toArray
theorem bs_self (s : ByteArray) : s = ⟨s.data.toList.toArray⟩ := by apply ByteArray.ext; simp
theorem sz (s : ByteArray) : s.data.toList.length = s.size := by rw [Array.length_toList]; rfl
theorem bs_take (F : List UInt8) (p : Nat) : (⟨F.toArray⟩ : ByteArray).extract 0 p = ⟨(F.take p).toArray⟩ := by
  apply ByteArray.ext; simp
theorem ext_drop (s : ByteArray) (p : Nat) : (s.extract p s.size).data.toList = s.data.toList.drop p := by
  rw [ByteArray.data_extract, Array.toList_extract]
  simp only [List.extract]
  exact List.take_of_length_le (by rw [List.length_drop, Array.length_toList]; exact Nat.le_refl _)
theorem bs_drop (F : List UInt8) (p : Nat) : (⟨F.toArray⟩ : ByteArray).extract p F.length = ⟨(F.drop p).toArray⟩ := by
  rw [bs_self (ByteArray.extract _ _ _)]
  have := ext_drop ⟨F.toArray⟩ p
  rw [bs_size] at this
  rw [this]
theorem tl_eq (a : List UInt8) : (⟨a.toArray⟩ : ByteArray).toList = a := by
  rw [ByteArray.toList_eq]
theorem bs_eq (a b : List UInt8) : ((⟨a.toArray⟩ : ByteArray) = ⟨b.toArray⟩) ↔ a = b := by
  constructor
  · intro h
    have := congrArg (fun x => x.data.toList) h
    simpa using this
  · rintro rfl
    rfl
theorem str_ne {a b : List UInt8} (h : a ≠ b) : ((⟨a.toArray⟩ : ByteArray).toList == (⟨b.toArray⟩ : ByteArray).toList) = false := by
  rw [tl_eq, tl_eq]
  simpa using h
theorem below2 {w w1 w2 : World} (h1 : Below w.heap.size w w1) (h2 : Below w1.heap.size w1 w2) : Below w.heap.size w w2 := h1.trans (h2.mono h1.size)

def pickS (c n : Int) : Int := (if c < 0 then -(c + 1) else c) % n
theorem pickS_nonneg {c n : Int} (h : 0 < n) : 0 ≤ pickS c n := Int.emod_nonneg _ (by omega)
theorem pickS_lt {c n : Int} (h : 0 < n) : pickS c n < n := Int.emod_lt_of_pos _ h
theorem pick_any (c n : Int) (w : World) (hc0 : -9223372036854775808 ≤ c) (hc1 : c ≤ 9223372036854775807) (hn0 : 0 < n) (hn1 : n ≤ 9223372036854775807) :
    Calls Try.prog 13 #[.int .i64 c, .int .i64 n] w (fun e w' => e = .returned (.int .i64 (pickS c n)) ∧ w = w') := by
  by_cases hc : c < 0
  all_goals
    go_enter Try.func13, Try.ntmps13
    go_wp2
    go_ret
    refine ⟨ret_int ?_, rfl⟩
    unfold pickS
    first
      | (rw [if_pos hc, ← Int.neg_tmod, Int.tmod_eq_emod_of_nonneg (by omega)]; done)
      | rw [if_neg (by omega)]

theorem beq_no {n m : Nat} (h : n ≠ m) : ((n : Int) == (m : Int)) = false := by
  simp; omega
set_option maxHeartbeats 1000000 in
theorem ofName_any (c : UInt8) (w : World) : Calls Try.prog 23 #[.int .u8 c.toNat] w (fun e w' => e = .returned (.bool (ofB c)) ∧ w = w') := by
  unfold ofB
  generalize c.toNat = n
  by_cases h : n = 95 ∨ n = 46 ∨ n = 58 ∨ n = 45
  · rcases h with rfl | rfl | rfl | rfl
    all_goals
      go_enter Try.func23, Try.ntmps23
      go_wp2
      go_ret
      exact ⟨rfl, rfl⟩
  · have h1 := beq_no (n := n) (m := 95) (by omega)
    have h2 := beq_no (n := n) (m := 46) (by omega)
    have h3 := beq_no (n := n) (m := 58) (by omega)
    have h4 := beq_no (n := n) (m := 45) (by omega)
    simp only [Int.cast_ofNat_Int] at h1 h2 h3 h4
    have HN := Lib.hid h
    clear h
    go_enter Try.func23, Try.ntmps23
    go_wp2
    all_goals go_ret
    all_goals exact ⟨ret_bool (by have := HN.out; rw [Bool.eq_iff_iff]; simp; try omega), rfl⟩

theorem run_byte (s : ByteArray) (k : Nat) (h : k < s.size) (c : Nat) (hc : s[k].toNat = c) (u : World) : (Instr.index 9 (.string s) (.int .i64 (k : Int))).run Try.prog u = .ok (.int .u8 c) u := by
  rw [run_index_string _ _ _ _ _ Try.underlying9]
  have e1 : ((k : Int)).toNat = k := Int.toNat_natCast k
  simp [h, hc]
theorem take_at {s : ByteArray} {k : Nat} (h : k < s.size) : s.data.toList.take (k + 1) = s.data.toList.take k ++ [s[k]] := by
  rw [List.take_add_one, List.getElem?_eq_getElem (by rw [sz]; exact h)]; rfl
theorem all_snoc (l : List UInt8) (c : UInt8) : (l ++ [c]).all ofB = (l.all ofB && ofB c) := by simp

set_option maxHeartbeats 1000000 in
theorem Name_any (s : ByteArray) (w : World) (hs : s.size ≤ 9223372036854775000) : Calls Try.prog 15 #[.string s] w (fun e w' => e = .returned (.bool (nameB s.data.toList)) ∧ w = w') := by
  unfold nameB
  rw [sz]
  obtain ⟨B, HB⟩ : ∃ B, Hid (s.data.toList.all ofB = B) := ⟨_, rfl⟩
  rw [HB.out]
  by_cases h1 : 1 ≤ s.size
  · by_cases h2 : s.size ≤ 16
    · rw [show decide (1 ≤ s.size ∧ s.size ≤ 16) = true by simp [h1, h2], Bool.true_and]
      go_enter Try.func15, Try.ntmps15
      go_wp2
      go_loop [14] (fun i => ∃ k : Nat, k ≤ s.size ∧ i = .int .i64 k ∧ Hid ((s.data.toList.take k).all ofB = true)) (fun i => s.size - (intOf i).toNat)
      case atStart => exact ⟨0, Nat.zero_le _, rfl, rfl⟩
      case round =>
        obtain ⟨k, hk, rfl, HK⟩ := hrel
        by_cases hlt : k < s.size
        · have hx : ∀ u : World, (Instr.index 9 (.string s) (.int .i64 k)).run Try.prog u = .ok (.int .u8 s[k].toNat) u := run_byte s k hlt s[k].toNat rfl
          have HD := Lib.hid (take_at hlt)
          have HM : Hid (s[k] ∈ s.data.toList) := by
            show s[k] ∈ s.data.toList
            exact Array.mem_toList_iff.2 (Array.getElem_mem hlt)
          generalize hc : s[k] = c at *
          clear hc
          have C := Lib.hid (ofName_any c)
          cases hp : ofB c with
          | true =>
            rw [hp] at C
            have HP := Lib.hid hp
            clear hp
            go_wp2_with (go_at_call 23; refine (C.out _).mono ?_; rintro e w' ⟨rfl, rfl⟩)
            go_round
            case rel => exact ⟨k + 1, by omega, by go_num, by show _ = _; rw [HD.out, all_snoc, HK.out, HP.out]; rfl⟩
            case measure => simp [intOf]; omega
          | false =>
            rw [hp] at C
            have HA : Hid (s.data.toList.all ofB = false) := by
              show _ = _
              rw [Bool.eq_false_iff]
              intro h
              have := List.all_eq_true.1 h c HM.out
              rw [hp] at this
              cases this
            clear hp
            go_wp2_with (go_at_call 23; refine (C.out _).mono ?_; rintro e w' ⟨rfl, rfl⟩)
            go_ret
            exact ⟨ret_bool (HA.out.symm.trans HB.out), rfl⟩
        · have HE : Hid (s.data.toList.all ofB = true) := by
            show _ = _
            have := HK.out
            rwa [List.take_of_length_le (by rw [sz]; omega)] at this
          go_wp2
          go_ret
          exact ⟨ret_bool (HE.out.symm.trans HB.out), rfl⟩
    · rw [show decide (1 ≤ s.size ∧ s.size ≤ 16) = false by simp; omega, Bool.false_and]
      go_enter Try.func15, Try.ntmps15
      go_wp2
      go_ret
      exact ⟨rfl, rfl⟩
  · rw [show decide (1 ≤ s.size ∧ s.size ≤ 16) = false by simp; omega, Bool.false_and]
    go_enter Try.func15, Try.ntmps15
    go_wp2
    go_ret
    exact ⟨rfl, rfl⟩
theorem Name_l (l : List UInt8) (w : World) (hs : l.length ≤ 9223372036854775000) : Calls Try.prog 15 #[.string ⟨l.toArray⟩] w (fun e w' => e = .returned (.bool (nameB l)) ∧ w = w') :=
  Name_any ⟨l.toArray⟩ w (by rw [bs_size]; exact hs)

theorem kd_no {k : List UInt8} (L : List UInt8) (h : k ≠ L) : ((⟨k.toArray⟩ : ByteArray).toList == L) = false := by
  rw [tl_eq]; simpa using h
theorem kd_yes {k : List UInt8} (L : List UInt8) (h : k = L) : ((⟨k.toArray⟩ : ByteArray).toList == L) = true := by
  rw [tl_eq]; simpa using h
theorem kindB_yes {k : List UInt8} (h : k = orderL ∨ k = instL ∨ k = stateL ∨ k = connL ∨ k = visL) : kindB k = true := by
  simpa [kindB] using h
set_option maxHeartbeats 1000000 in
theorem ofKind_any (k : List UInt8) (w : World) : Calls Try.prog 22 #[.string ⟨k.toArray⟩] w (fun e w' => e = .returned (.bool (kindB k)) ∧ w = w') := by
  by_cases h1 : k = orderL
  · have f1 := kd_yes _ h1
    rw [kindB_yes (.inl h1)]
    unfold orderL at f1
    clear h1
    generalize (⟨k.toArray⟩ : ByteArray) = K at *
    go_enter Try.func22, Try.ntmps22
    go_wp2
    go_ret
    exact ⟨rfl, rfl⟩
  · have f1 := kd_no _ h1
    unfold orderL at f1
    by_cases h2 : k = instL
    · have f2 := kd_yes _ h2
      rw [kindB_yes (.inr (.inl h2))]
      unfold instL at f2
      clear h1 h2
      generalize (⟨k.toArray⟩ : ByteArray) = K at *
      go_enter Try.func22, Try.ntmps22
      go_wp2
      go_ret
      exact ⟨rfl, rfl⟩
    · have f2 := kd_no _ h2
      unfold instL at f2
      by_cases h3 : k = stateL
      · have f3 := kd_yes _ h3
        rw [kindB_yes (.inr (.inr (.inl h3)))]
        unfold stateL at f3
        clear h1 h2 h3
        generalize (⟨k.toArray⟩ : ByteArray) = K at *
        go_enter Try.func22, Try.ntmps22
        go_wp2
        go_ret
        exact ⟨rfl, rfl⟩
      · have f3 := kd_no _ h3
        unfold stateL at f3
        by_cases h4 : k = connL
        · have f4 := kd_yes _ h4
          rw [kindB_yes (.inr (.inr (.inr (.inl h4))))]
          unfold connL at f4
          clear h1 h2 h3 h4
          generalize (⟨k.toArray⟩ : ByteArray) = K at *
          go_enter Try.func22, Try.ntmps22
          go_wp2
          go_ret
          exact ⟨rfl, rfl⟩
        · have f4 := kd_no _ h4
          unfold connL at f4
          by_cases h5 : k = visL
          · have f5 := kd_yes _ h5
            rw [kindB_yes (.inr (.inr (.inr (.inr h5))))]
            unfold visL at f5
            clear h1 h2 h3 h4 h5
            generalize (⟨k.toArray⟩ : ByteArray) = K at *
            go_enter Try.func22, Try.ntmps22
            go_wp2
            go_ret
            exact ⟨rfl, rfl⟩
          · have f5 := kd_no _ h5
            rw [show kindB k = false by simp [kindB, h1, h2, h3, h4, h5]]
            unfold visL at f5
            clear h1 h2 h3 h4 h5
            generalize (⟨k.toArray⟩ : ByteArray) = K at *
            go_enter Try.func22, Try.ntmps22
            go_wp2
            go_ret
            exact ⟨rfl, rfl⟩
end Go.Proofs.Ytnjcfnmdelpecaa.Tp
