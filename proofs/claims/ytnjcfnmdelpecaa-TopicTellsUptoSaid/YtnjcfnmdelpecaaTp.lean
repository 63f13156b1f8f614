import Derived.Test.YtnjcfnmdelpecaaTo
/- Layer 7, the document's side: its Print. -/
set_option linter.unusedVariables false
set_option linter.unusedSimpArgs false
namespace Go.Proofs.Ytnjcfnmdelpecaa.Tp
open Go.RowKit

/-- Of a text: which of the five kinds it is, as the tests have it. -/
structure KTests (K : ByteArray) (b1 b2 b3 b4 b5 : Bool) : Prop where
  t1 : (K.toList == [111, 114, 100, 101, 114]) = b1
  t2 : (K.toList == [105, 110, 115, 116, 97, 110, 116, 65, 99, 116, 105, 111, 110, 115]) = b2
  t3 : (K.toList == [115, 116, 97, 116, 101]) = b3
  t4 : (K.toList == [99, 111, 110, 110, 101, 99, 116, 105, 111, 110]) = b4
  t5 : (K.toList == [118, 105, 115, 117, 97, 108, 105, 122, 97, 116, 105, 111, 110]) = b5
theorem ktests (k : List UInt8) : ∃ b1 b2 b3 b4 b5, KTests ⟨k.toArray⟩ b1 b2 b3 b4 b5 ∧ kindB k = (b1 || (b2 || (b3 || (b4 || b5)))) :=
  ⟨_, _, _, _, _, ⟨rfl, rfl, rfl, rfl, rfl⟩, by
    rw [tl_eq, Bool.eq_iff_iff]
    simp [kindB, orderL, instL, stateL, connL, visL]
    exact ⟨fun h => of_decide_eq_true h, fun h => decide_eq_true h⟩⟩

set_option maxHeartbeats 4000000 in
set_option maxRecDepth 100000 in
theorem rPrint_any (m s k : List UInt8) (w : World) (hm : m.length ≤ reachN) (hs : s.length ≤ reachN) (hk : k.length ≤ reachN) :
    Calls Try.prog 12 #[.agg #[.string ⟨m.toArray⟩, .string ⟨s.toArray⟩, .string ⟨k.toArray⟩]] w (Ret (printV (printS m s k)) w) := by
  obtain ⟨b1, b2, b3, b4, b5, ⟨t1, t2, t3, t4, t5⟩, hkb⟩ := ktests k
  cases h1 : nameB m with
  | false =>
    have C1 := Lib.hid (fun u => rname_is h1 u hm)
    rw [printS_m h1]
    cases h2 : nameB s with
    | false =>
      have C2 := Lib.hid (fun u => rname_is h2 u hs)
      clear h1 h2 hm hs hk hkb t1 t2 t3 t4 t5
      generalize (⟨m.toArray⟩ : ByteArray) = M at *
      generalize (⟨s.toArray⟩ : ByteArray) = S at *
      generalize (⟨k.toArray⟩ : ByteArray) = K at *
      go_enter Try.func12, Try.ntmps12
      go_wp2_with (first | (go_at_call 16; (with_reducible refine (C1.out _).mono ?_); rintro e w1 ⟨rfl, rfl⟩) | (go_at_call 16; (with_reducible refine (C2.out _).mono ?_); rintro e w1 ⟨rfl, rfl⟩))
      go_ret2
      exact ⟨rfl, (Below.refl _ w).alloc (Nat.le_refl _) _⟩
    | true =>
      have C2 := Lib.hid (fun u => rname_is h2 u hs)
      clear h1 h2 hm hs hk hkb t1 t2 t3 t4 t5
      generalize (⟨m.toArray⟩ : ByteArray) = M at *
      generalize (⟨s.toArray⟩ : ByteArray) = S at *
      generalize (⟨k.toArray⟩ : ByteArray) = K at *
      go_enter Try.func12, Try.ntmps12
      go_wp2_with (first | (go_at_call 16; (with_reducible refine (C1.out _).mono ?_); rintro e w1 ⟨rfl, rfl⟩) | (go_at_call 16; (with_reducible refine (C2.out _).mono ?_); rintro e w1 ⟨rfl, rfl⟩))
      go_ret2
      exact ⟨rfl, (Below.refl _ w).alloc (Nat.le_refl _) _⟩
  | true =>
    have C1 := Lib.hid (fun u => rname_is h1 u hm)
    cases h2 : nameB s with
    | false =>
      have C2 := Lib.hid (fun u => rname_is h2 u hs)
      rw [printS_s h2]
      clear h1 h2 hm hs hk hkb t1 t2 t3 t4 t5
      generalize (⟨m.toArray⟩ : ByteArray) = M at *
      generalize (⟨s.toArray⟩ : ByteArray) = S at *
      generalize (⟨k.toArray⟩ : ByteArray) = K at *
      go_enter Try.func12, Try.ntmps12
      go_wp2_with (first | (go_at_call 16; (with_reducible refine (C1.out _).mono ?_); rintro e w1 ⟨rfl, rfl⟩) | (go_at_call 16; (with_reducible refine (C2.out _).mono ?_); rintro e w1 ⟨rfl, rfl⟩))
      go_ret2
      exact ⟨rfl, (Below.refl _ w).alloc (Nat.le_refl _) _⟩
    | true =>
      have C2 := Lib.hid (fun u => rname_is h2 u hs)
      cases h3 : kindB k with
      | false =>
        rw [printS_k h3]
        rw [h3] at hkb
        obtain ⟨rfl, rfl, rfl, rfl, rfl⟩ : b1 = false ∧ b2 = false ∧ b3 = false ∧ b4 = false ∧ b5 = false := by
          revert hkb
          cases b1 <;> cases b2 <;> cases b3 <;> cases b4 <;> cases b5 <;> decide
        clear h1 h2 h3 hm hs hk hkb
        generalize (⟨m.toArray⟩ : ByteArray) = M at *
        generalize (⟨s.toArray⟩ : ByteArray) = S at *
        generalize (⟨k.toArray⟩ : ByteArray) = K at *
        go_enter Try.func12, Try.ntmps12
        go_wp2_with (first | (go_at_call 16; (with_reducible refine (C1.out _).mono ?_); rintro e w1 ⟨rfl, rfl⟩) | (go_at_call 16; (with_reducible refine (C2.out _).mono ?_); rintro e w1 ⟨rfl, rfl⟩))
        go_ret2
        exact ⟨rfl, (Below.refl _ w).alloc (Nat.le_refl _) _⟩
      | true =>
        rw [printS_ok h1 h2 h3]
        have l1 := (name_len h1).2
        have l2 := (name_len h2).2
        have l3 := kind_len h3
        have HB := Lib.hid (print_bytes m s k)
        have z1 : (⟨m.toArray⟩ : ByteArray).size ≤ 16 := by rw [bs_size]; exact l1
        have z2 : (⟨s.toArray⟩ : ByteArray).size ≤ 16 := by rw [bs_size]; exact l2
        have z3 : (⟨k.toArray⟩ : ByteArray).size ≤ 14 := by rw [bs_size]; exact l3
        show Calls _ _ _ _ (Ret (.tuple #[.string ⟨(printL m s k).toArray⟩, .int .i64 0]) w)
        rw [h3] at hkb
        clear h1 h2 h3 hm hs hk l1 l2 l3
        generalize (⟨(printL m s k).toArray⟩ : ByteArray) = Z at *
        generalize (⟨m.toArray⟩ : ByteArray) = M at *
        generalize (⟨s.toArray⟩ : ByteArray) = S at *
        generalize (⟨k.toArray⟩ : ByteArray) = K at *
        have s8 : (⟨#[117, 97, 103, 118, 47, 118, 50, 47]⟩ : ByteArray).size = 8 := rfl
        have s1 : (⟨#[47]⟩ : ByteArray).size = 1 := rfl
        have hone : b1 = true ∨ (b1 = false ∧ b2 = true) ∨ (b1 = false ∧ b2 = false ∧ b3 = true) ∨ (b1 = false ∧ b2 = false ∧ b3 = false ∧ b4 = true) ∨ (b1 = false ∧ b2 = false ∧ b3 = false ∧ b4 = false ∧ b5 = true) := by
          revert hkb
          cases b1 <;> cases b2 <;> cases b3 <;> cases b4 <;> cases b5 <;> decide
        clear hkb
        rcases hone with rfl | ⟨rfl, rfl⟩ | ⟨rfl, rfl, rfl⟩ | ⟨rfl, rfl, rfl, rfl⟩ | ⟨rfl, rfl, rfl, rfl, rfl⟩
        all_goals
          go_enter Try.func12, Try.ntmps12
          go_wp2_with (first | (go_at_call 16; (with_reducible refine (C1.out _).mono ?_); rintro e w1 ⟨rfl, rfl⟩) | (go_at_call 16; (with_reducible refine (C2.out _).mono ?_); rintro e w1 ⟨rfl, rfl⟩))
          go_ret2
          rw [HB.out]
          exact ⟨rfl, (Below.refl _ w).alloc (Nat.le_refl _) _⟩
end Go.Proofs.Ytnjcfnmdelpecaa.Tp
