import Derived.Test.YtnjcfnmdelpecaaTa
import Derived.Lib.IndexLaws
import Derived.Lib.CutLaws
import Derived.IntWalk
import Derived.BigQuiet
/- Layer 7: the contracts of Print, and of the library's Cut at a slash, and TrimPrefix. -/
set_option linter.unusedVariables false
set_option linter.unusedSimpArgs false
namespace Go.Proofs.Ytnjcfnmdelpecaa.Tp
open Go.RowKit

/-- What Print answers. -/
def printV : Option (List UInt8) → Value
  | some z => .tuple #[.string ⟨z.toArray⟩, .int .i64 0]
  | none => .tuple #[.string ⟨#[]⟩, .int .i64 70]
theorem printS_ok {m s k : List UInt8} (h1 : nameB m = true) (h2 : nameB s = true) (h3 : kindB k = true) : printS m s k = some (printL m s k) := by
  unfold printS okT
  rw [h1, h2, h3]; rfl
theorem printS_m {m s k : List UInt8} (h1 : nameB m = false) : printS m s k = none := by
  unfold printS okT
  rw [h1]; rfl
theorem printS_s {m s k : List UInt8} (h1 : nameB s = false) : printS m s k = none := by
  unfold printS okT
  rw [h1, Bool.and_false]; rfl
theorem printS_k {m s k : List UInt8} (h1 : kindB k = false) : printS m s k = none := by
  unfold printS okT
  rw [h1, Bool.and_false]; rfl
theorem print_bytes (m s k : List UInt8) : (⟨#[117, 97, 103, 118, 47, 118, 50, 47]⟩ : ByteArray) ++ ⟨m.toArray⟩ ++ ⟨#[47]⟩ ++ ⟨s.toArray⟩ ++ ⟨#[47]⟩ ++ ⟨k.toArray⟩ = ⟨(printL m s k).toArray⟩ := by
  apply ByteArray.ext
  simp [printL, startL]
def reachN : Nat := 140737488355328

set_option maxHeartbeats 1000000 in
theorem Print_any (m s k : List UInt8) (w : World) (hm : m.length ≤ reachN) (hs : s.length ≤ reachN) (hk : k.length ≤ reachN) :
    Calls Try.prog 14 #[.agg #[.string ⟨m.toArray⟩, .string ⟨s.toArray⟩, .string ⟨k.toArray⟩]] w (Ret (printV (printS m s k)) w) := by
  unfold reachN at hm hs hk
  have C1 := Lib.hid (fun u => Name_l m u (by omega))
  have C2 := Lib.hid (fun u => Name_l s u (by omega))
  have C3 := Lib.hid (fun u => ofKind_any k u)
  cases h1 : nameB m with
  | false =>
    rw [printS_m h1]
    rw [h1] at C1
    clear h1 hm hs hk C2 C3
    generalize (⟨m.toArray⟩ : ByteArray) = M at *
    generalize (⟨s.toArray⟩ : ByteArray) = S at *
    generalize (⟨k.toArray⟩ : ByteArray) = K at *
    go_enter Try.func14, Try.ntmps14
    go_wp2_with (go_at_call 15; (with_reducible refine (C1.out _).mono ?_); rintro e w1 ⟨rfl, rfl⟩)
    go_ret2
    exact ⟨rfl, (Below.refl _ w).alloc (Nat.le_refl _) _⟩
  | true =>
    rw [h1] at C1
    cases h2 : nameB s with
    | false =>
      rw [printS_s h2]
      rw [h2] at C2
      clear h1 h2 hm hs hk C3
      generalize (⟨m.toArray⟩ : ByteArray) = M at *
      generalize (⟨s.toArray⟩ : ByteArray) = S at *
      generalize (⟨k.toArray⟩ : ByteArray) = K at *
      go_enter Try.func14, Try.ntmps14
      go_wp2_with (first | (go_at_call 15; (with_reducible refine (C1.out _).mono ?_); rintro e w1 ⟨rfl, rfl⟩) | (go_at_call 15; (with_reducible refine (C2.out _).mono ?_); rintro e w1 ⟨rfl, rfl⟩))
      go_ret2
      exact ⟨rfl, (Below.refl _ w).alloc (Nat.le_refl _) _⟩
    | true =>
      rw [h2] at C2
      cases h3 : kindB k with
      | false =>
        rw [printS_k h3]
        rw [h3] at C3
        clear h1 h2 h3 hm hs hk
        generalize (⟨m.toArray⟩ : ByteArray) = M at *
        generalize (⟨s.toArray⟩ : ByteArray) = S at *
        generalize (⟨k.toArray⟩ : ByteArray) = K at *
        go_enter Try.func14, Try.ntmps14
        go_wp2_with (first | (go_at_call 15; (with_reducible refine (C1.out _).mono ?_); rintro e w1 ⟨rfl, rfl⟩) | (go_at_call 15; (with_reducible refine (C2.out _).mono ?_); rintro e w1 ⟨rfl, rfl⟩) | (go_at_call 22; (with_reducible refine (C3.out _).mono ?_); rintro e w1 ⟨rfl, rfl⟩))
        go_ret2
        exact ⟨rfl, (Below.refl _ w).alloc (Nat.le_refl _) _⟩
      | true =>
        rw [printS_ok h1 h2 h3]
        rw [h3] at C3
        have l1 := (name_len h1).2
        have l2 := (name_len h2).2
        have l3 := kind_len h3
        have HB := Lib.hid (print_bytes m s k)
        have z1 : (⟨m.toArray⟩ : ByteArray).size ≤ 16 := by rw [bs_size]; exact l1
        have z2 : (⟨s.toArray⟩ : ByteArray).size ≤ 16 := by rw [bs_size]; exact l2
        have z3 : (⟨k.toArray⟩ : ByteArray).size ≤ 14 := by rw [bs_size]; exact l3
        show Calls _ _ _ _ (Ret (.tuple #[.string ⟨(printL m s k).toArray⟩, .int .i64 0]) w)
        clear h1 h2 h3 hm hs hk l1 l2 l3
        generalize (⟨(printL m s k).toArray⟩ : ByteArray) = Z at *
        generalize (⟨m.toArray⟩ : ByteArray) = M at *
        generalize (⟨s.toArray⟩ : ByteArray) = S at *
        generalize (⟨k.toArray⟩ : ByteArray) = K at *
        have s8 : (⟨#[117, 97, 103, 118, 47, 118, 50, 47]⟩ : ByteArray).size = 8 := rfl
        have s1 : (⟨#[47]⟩ : ByteArray).size = 1 := rfl
        go_enter Try.func14, Try.ntmps14
        go_wp2_with (first | (go_at_call 15; (with_reducible refine (C1.out _).mono ?_); rintro e w1 ⟨rfl, rfl⟩) | (go_at_call 15; (with_reducible refine (C2.out _).mono ?_); rintro e w1 ⟨rfl, rfl⟩) | (go_at_call 22; (with_reducible refine (C3.out _).mono ?_); rintro e w1 ⟨rfl, rfl⟩))
        go_ret2
        rw [HB.out]
        exact ⟨rfl, (Below.refl _ w).alloc (Nat.le_refl _) _⟩

/-- What Cut tells of a text at its first slash. -/
def cutS (l : List UInt8) : List UInt8 × List UInt8 × Bool := if 47 ∈ l then (l.takeWhile (· ≠ 47), (l.dropWhile (· ≠ 47)).drop 1, true) else (l, [], false)
theorem cutS_no {l : List UInt8} (h : 47 ∉ l) : cutS l = (l, [], false) := if_neg h
theorem cutS_yes {a b : List UInt8} (h : 47 ∉ a) : cutS (a ++ 47 :: b) = (a, b, true) := by
  have h1 : (a ++ 47 :: b).takeWhile (· ≠ 47) = a := by
    rw [List.takeWhile_append_of_pos (by intro x hx; simp; rintro rfl; exact h hx)]
    simp
  have h2 : (a ++ 47 :: b).dropWhile (· ≠ 47) = 47 :: b := by
    rw [List.dropWhile_append_of_pos (by intro x hx; simp; rintro rfl; exact h hx)]
    simp
  unfold cutS
  rw [if_pos (by simp), h1, h2]
  rfl
theorem index_no {l : List UInt8} (h : 47 ∉ l) : Lib.indexByte l 47 = -1 := by
  have h0 := Lib.indexByte_ge l 47
  by_cases h1 : Lib.indexByte l 47 = -1
  · exact h1
  · obtain ⟨o, ho⟩ := Int.eq_ofNat_of_zero_le (show 0 ≤ Lib.indexByte l 47 by omega)
    exact absurd (List.mem_of_getElem? (Lib.indexByte_some ho).1) h
theorem index_yes {a b : List UInt8} (h : 47 ∉ a) : Lib.indexByte (a ++ 47 :: b) 47 = (a.length : Int) := by
  have h0 := Lib.indexByte_ge (a ++ 47 :: b) 47
  by_cases h1 : Lib.indexByte (a ++ 47 :: b) 47 = -1
  · exact absurd (by simp) (Lib.indexByte_none h1 a.length)
  · obtain ⟨o, ho⟩ := Int.eq_ofNat_of_zero_le (show 0 ≤ Lib.indexByte (a ++ 47 :: b) 47 by omega)
    obtain ⟨e1, e2⟩ := Lib.indexByte_some ho
    rw [ho]
    by_cases hlt : o < a.length
    · rw [List.getElem?_append_left hlt] at e1
      exact absurd (List.mem_of_getElem? e1) h
    · by_cases hgt : a.length < o
      · exact absurd (by simp) (e2 a.length hgt)
      · show ((o : Nat) : Int) = _
        omega

theorem index_one : Lib.indexByte (⟨#[47]⟩ : ByteArray).data.toList 47 = 0 := by decide +kernel
set_option maxRecDepth 100000 in
theorem slIndex_any (s : ByteArray) (w : World) :
    Calls Try.prog 32 #[.string s, .string ⟨#[47]⟩] w (fun e w' => e = .returned (.int .i64 (Lib.indexByte s.data.toList 47)) ∧ w = w') := by
  have C := Lib.hid (fun u => Try.stringslite_IndexByte s 47 u)
  rw [show (47 : Int).toNat.toUInt8 = 47 from rfl] at C
  by_cases h : s.data.toList = [47]
  · have e : s = ⟨#[47]⟩ := by rw [bs_self s, h]
    subst e
    rw [index_one] at C ⊢
    go_enter Try.func32, Try.ntmps32
    go_wp2_with (go_at_call 33; (with_reducible refine (C.out _).mono ?_); rintro e w1 ⟨rfl, rfl⟩)
    go_ret
    exact ⟨rfl, rfl⟩
  · have f1 : ([47] == s.toList) = false := by
      rw [ByteArray.toList_eq]
      exact beq_eq_false_iff_ne.2 (fun e => h e.symm)
    clear h
    go_enter Try.func32, Try.ntmps32
    go_wp2_with (go_at_call 33; refine (Try.stringslite_IndexByte _ _ _).mono ?_; rintro e w1 ⟨rfl, rfl⟩)
    go_ret
    exact ⟨rfl, rfl⟩

/-- What Cut answers. -/
def cutV (x : List UInt8 × List UInt8 × Bool) : Value := .tuple #[.string ⟨x.1.toArray⟩, .string ⟨x.2.1.toArray⟩, .bool x.2.2]
/-- It returned a value, and at most the count of draws is another one. -/
def RetD (v : Value) (w : World) (e : Ending) (w' : World) : Prop := e = .returned v ∧ ∃ n, w' = w.drewN n
set_option maxHeartbeats 1000000 in
theorem slCut_any (l : List UInt8) (w : World) (hl : l.length ≤ reachN) :
    Calls Try.prog 30 #[.string ⟨l.toArray⟩, .string ⟨#[47]⟩] w (RetD (cutV (cutS l)) w) := by
  unfold reachN at hl
  have C := Lib.hid (fun u => slIndex_any ⟨l.toArray⟩ u)
  have hs1 : (⟨#[47]⟩ : ByteArray).size = 1 := rfl
  rcases slash_cases l with h | ⟨a, b, rfl, h⟩
  · rw [cutS_no h]
    unfold cutV
    rw [show (⟨l.toArray⟩ : ByteArray).data.toList = l from rfl, index_no h] at C
    clear h hl
    generalize (⟨l.toArray⟩ : ByteArray) = s at *
    go_enter Try.func30, Try.ntmps30
    go_wp2_with (go_at_call 32; (with_reducible refine (C.out _).mono ?_); rintro e w1 ⟨rfl, rfl⟩)
    go_ret3
    exact ⟨rfl, 0, rfl⟩
  · rw [cutS_yes h]
    unfold cutV
    rw [show (⟨(a ++ 47 :: b).toArray⟩ : ByteArray).data.toList = a ++ 47 :: b from rfl, index_yes h] at C
    have hL : (a ++ 47 :: b).length = a.length + 1 + b.length := by simp; omega
    have hz : (⟨(a ++ 47 :: b).toArray⟩ : ByteArray).size = a.length + 1 + b.length := by rw [bs_size, hL]
    have HA : Hid ((⟨(a ++ 47 :: b).toArray⟩ : ByteArray).extract 0 a.length = ⟨a.toArray⟩) := by
      show _ = _
      rw [bs_take]; simp
    have HB : Hid ((⟨(a ++ 47 :: b).toArray⟩ : ByteArray).extract (a.length + 1) (a.length + 1 + b.length) = ⟨b.toArray⟩) := by
      show _ = _
      rw [← hL, bs_drop]
      congr 2
      rw [show a ++ 47 :: b = (a ++ [47]) ++ b by simp, show a.length + 1 = (a ++ [47]).length by simp, List.drop_left]
    rw [hL] at hl
    clear h hL
    generalize (⟨(a ++ 47 :: b).toArray⟩ : ByteArray) = s at *
    generalize (⟨a.toArray⟩ : ByteArray) = va at *
    generalize (⟨b.toArray⟩ : ByteArray) = vb at *
    generalize a.length = n at *
    generalize b.length = m at *
    go_enter Try.func30, Try.ntmps30
    go_wp2_with (go_at_call 32; (with_reducible refine (C.out _).mono ?_); rintro e w1 ⟨rfl, rfl⟩)
    have R1 : ∀ w', (Instr.slice 9 (.string s) none (some (.int .i64 (n : Int))) none).run Try.prog w' = .ok (.string va) w' := fun w' => by
      rw [run_slice_string_h w' 9 s Try.underlying9 .i64 n (by omega) (by omega), Int.toNat_natCast, HA.out]
    have R2 : ∀ w', (Instr.slice 9 (.string s) (some (.int .i64 ((n : Int) + 1))) none none).run Try.prog w' = .ok (.string vb) w' := fun w' => by
      rw [run_slice_string_l w' 9 s Try.underlying9 .i64 ((n : Int) + 1) (by omega) (by omega), show ((n : Int) + 1).toNat = n + 1 by omega, hz, HB.out]
    have hsum : IntKind.i64.wrap ((n : Int) + 1) = (n : Int) + 1 := IntWalk.i64_in _ (by omega)
    have hn0 : 0 ≤ (n : Int) + 1 := by omega
    clear hz HA HB
    go_quiet (fail)
    go_wp2
    go_ret3
    exact ⟨rfl, _, rfl⟩

set_option maxHeartbeats 1000000 in
theorem Cut_any (l : List UInt8) (w : World) (hl : l.length ≤ reachN) :
    Calls Try.prog 27 #[.string ⟨l.toArray⟩, .string ⟨#[47]⟩] w (RetD (cutV (cutS l)) w) := by
  have C := Lib.hid (fun u => slCut_any l u hl)
  generalize cutS l = x at *
  obtain ⟨a, b, c⟩ := x
  unfold cutV at *
  dsimp only at *
  clear hl
  generalize (⟨l.toArray⟩ : ByteArray) = s at *
  generalize (⟨a.toArray⟩ : ByteArray) = va at *
  generalize (⟨b.toArray⟩ : ByteArray) = vb at *
  go_enter Try.func27, Try.ntmps27
  go_wp2_with (go_at_call 30; (with_reducible refine (C.out _).mono ?_); rintro e w1 ⟨rfl, nq, rfl⟩)
  go_ret3
  exact ⟨rfl, _, rfl⟩

theorem trim_eq (z : List UInt8) : Lib.trimPrefix z [117, 97, 103, 118, 47, 118, 50, 47] = trimL z := by
  unfold Lib.trimPrefix trimL Lib.hasPrefix
  show (if startL.isPrefixOf z = true then z.drop 8 else z) = _
  by_cases h : z.take 8 = startL
  · rw [if_pos h, if_pos (List.isPrefixOf_iff_prefix.2 (List.prefix_iff_eq_take.2 h.symm))]
  · rw [if_neg h, if_neg (fun x => h (show z.take startL.length = startL from (List.prefix_iff_eq_take.1 (List.isPrefixOf_iff_prefix.1 x)).symm))]
theorem Trim_any (z : List UInt8) (w : World) : Calls Try.prog 25 #[.string ⟨z.toArray⟩, .string ⟨#[117, 97, 103, 118, 47, 118, 50, 47]⟩] w (fun e w' => e = .returned (.string ⟨(trimL z).toArray⟩) ∧ w = w') := by
  refine (Try.strings_TrimPrefix _ _ w).mono ?_
  rintro e w' ⟨rfl, rfl⟩
  exact ⟨ret_str (by rw [← trim_eq]), rfl⟩
end Go.Proofs.Ytnjcfnmdelpecaa.Tp
