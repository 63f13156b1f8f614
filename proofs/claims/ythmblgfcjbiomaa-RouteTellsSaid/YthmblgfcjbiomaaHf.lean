import Derived.Test.YthmblgfcjbiomaaHe
/- sink. -/
set_option linter.unusedVariables false
set_option linter.unusedSimpArgs false
namespace Go.Proofs.Ythmblgfcjbiomaa.Hp
open Go.RowKit

/-- Between the rounds over what stands below a place: m is the least of those that were met. -/
structure SI (l : List Pr) (q k m : Nat) : Prop where
  lo : 2 * q + 1 ≤ k
  hi : k ≤ 2 * q + 3
  one : m = q ∨ (2 * q + 1 ≤ m ∧ m < k)
  lt : m < l.length ∨ m = 0
  le : LeP (at' l m) (at' l q)
  all : ∀ i, 2 * q + 1 ≤ i → i < k → LeP (at' l m) (at' l i)
theorem SI.start {l : List Pr} {q : Nat} (h : q < l.length ∨ q = 0) : SI l q (2 * q + 1) q := ⟨Nat.le_refl _, by omega, .inl rfl, h, LeP.refl _, fun i h1 h2 => by omega⟩
theorem SI.take {l : List Pr} {q k m : Nat} (h : SI l q k m) (hk : k ≤ 2 * q + 2) (hl : k < l.length) (ht : ltP (at' l k) (at' l m) = true) : SI l q (k + 1) k :=
  ⟨by have := h.lo; omega, by omega, .inr ⟨h.lo, by omega⟩, .inl hl, (le_of_lt ht).trans h.le, fun i h1 h2 => by
    rcases Nat.lt_or_ge i k with h3 | h3
    · exact (le_of_lt ht).trans (h.all i h1 h3)
    · obtain rfl : i = k := by omega
      exact LeP.refl _⟩
theorem SI.pass {l : List Pr} {q k m : Nat} (h : SI l q k m) (hk : k ≤ 2 * q + 2) (ht : ltP (at' l k) (at' l m) = false) : SI l q (k + 1) m :=
  ⟨by have := h.lo; omega, by omega, by have := h.one; omega, h.lt, h.le, fun i h1 h2 => by
    rcases Nat.lt_or_ge i k with h3 | h3
    · exact h.all i h1 h3
    · obtain rfl : i = k := by omega
      exact ht⟩
theorem SI.done {l : List Pr} {q k m : Nat} (h : SI l q k m) (hk : 2 * q + 2 < k ∨ l.length ≤ k) : ∀ i, 0 < i → i < l.length → (i - 1) / 2 = q → LeP (at' l m) (at' l i) := fun i h0 h1 h2 => h.all i (by omega) (by omega)

set_option maxHeartbeats 4000000 in
theorem sink_any {base : Nat} {w : World} {b : Nat} {v : Value} {l : List Pr} (h : HpAt base w b v l) (hd : Down l 0) :
    Calls Try.prog 44 #[.pointer (some ⟨b, 0, none⟩), .int .i64 0] w (MoveRet base w b v l) := by
  obtain ⟨ao, cap, rfl⟩ := h.form0
  obtain ⟨Q, HQ⟩ : ∃ Q, Hid (MoveRet base w b (.slice ao l.length cap) l = Q) := ⟨_, rfl⟩
  rw [HQ.out]
  have H0 : RI base w b (.slice ao l.length cap) l l w := ⟨h, List.Perm.refl _, ⟨rfl, rfl, rfl, Nat.le_refl _, fun _ _ _ => rfl⟩⟩
  have HD := Lib.hid hd
  clear hd
  have hs := h.short
  go_enter Try.func44, Try.ntmps44
  go_wp2
  go_loopw [1] (fun i wr => ∃ (q : Nat) (l' : List Pr), i = .int .i64 q ∧ (q < l'.length ∨ q = 0) ∧ Hid (Down l' q) ∧ RI base w b (.slice ao l.length cap) l l' wr) (fun i _ => 1001 - (intOf i).toNat)
  case atStart => exact ⟨0, l, rfl, .inr rfl, HD, H0⟩
  case round =>
    obtain ⟨q, l', rfl, hq, hU, hR⟩ := hrel
    have hq2 : q ≤ 1000 := by have := hR.hp.short; omega
    have HL := Lib.hid hR.perm.length_eq
    go_wp2_with fail
    go_loopw [4, 5] (fun m k wi => ∃ (mm kk : Nat), m = .int .i64 mm ∧ k = .int .i64 kk ∧ SI l' q kk mm ∧ RI base w b (.slice ao l.length cap) l l' wi) (fun _ k _ => 2 * q + 3 - (intOf k).toNat)
    case atStart => exact ⟨q, 2 * q + 1, rfl, by go_num, SI.start hq, hR⟩
    case round =>
      obtain ⟨mm, kk, rfl, rfl, hS, hR1⟩ := hrel
      have hcell := hR1.hp.get
      have hlen : l'.length = l.length := HL.out
      rw [show (l.length : Nat) = l.length from rfl]
      have h1k := hS.lo
      have h2k := hS.hi
      have h3k := hS.lt
      have h4k := hS.one
      by_cases hin : kk ≤ 2 * q + 2 ∧ kk < l.length
      · have hA : decide ((kk : Int) ≤ 2 * (q : Int) + 2) = true := by simp; omega
        have hB : decide (kk < l.length) = true := by simp; omega
        have hA1 : (kk : Int) ≤ 2 * (q : Int) + 2 := by omega
        have hB1 : kk < l.length := hin.2
        have hml : mm < l'.length := by omega
        have hkl : kk < l'.length := by omega
        have hk2 : kk ≤ 2 * q + 2 := hin.1
        have HS := Lib.hid hS
        clear hS hin h1k h2k h3k h4k
        have HLL := Lib.hid hlen
        clear hlen
        cases ht : ltP (at' l' kk) (at' l' mm) with
        | false =>
          have HT := Lib.hid ht
          clear ht
          go_wp2_with (go_at_call 46; (with_reducible refine (less_at hR1.hp kk mm _ _ false rfl rfl hkl hml HT.out).mono ?_); rintro e w1 ⟨rfl, hb1⟩)
          go_roundw
          case rel => exact ⟨mm, kk + 1, rfl, by go_num, HS.out.pass hk2 HT.out, hR1.below hb1⟩
          case measure => simp [intOf]; omega
        | true =>
          have HT := Lib.hid ht
          clear ht
          go_wp2_with (go_at_call 46; (with_reducible refine (less_at hR1.hp kk mm _ _ true rfl rfl hkl hml HT.out).mono ?_); rintro e w1 ⟨rfl, hb1⟩)
          go_roundw
          case rel => exact ⟨kk, kk + 1, rfl, by go_num, HS.out.take hk2 hkl HT.out, hR1.below hb1⟩
          case measure => simp [intOf]; omega
      · have hdone := Lib.hid (hS.done (by omega))
        have HS := Lib.hid hS
        have hq3 : mm ≠ q → q < l'.length ∧ mm < l'.length ∧ 0 < mm ∧ (mm - 1) / 2 = q := by omega
        have HQ3 := Lib.hid hq3
        clear hq3 hS h1k h2k h3k h4k
        have HLL := Lib.hid hlen
        clear hlen
        have hout : decide ((kk : Int) ≤ 2 * (q : Int) + 2) = false ∨ (decide ((kk : Int) ≤ 2 * (q : Int) + 2) = true ∧ decide (kk < l.length) = false) := by
          by_cases h1 : kk ≤ 2 * q + 2
          · right
            constructor
            · simp; omega
            · simp; omega
          · left
            simp
            omega
        clear hin
        by_cases hmq : mm = q
        · subst hmq
          rcases hout with hA | ⟨hA, hB⟩
          all_goals
            go_wp2_with fail
            go_end0
            rw [← HQ.out]
            exact ⟨rfl, l', hR1.hp, hU.out.done hdone.out, hR1.perm, hR1.grown⟩
        · obtain ⟨hql, hml, hm0, hmp⟩ := HQ3.out hmq
          have hne : ((mm : Int) == (q : Int)) = false := by simp; omega
          have hne2 : (mm == q) = false := by simpa using hmq
          rcases hout with hA | ⟨hA, hB⟩
          all_goals
            go_wp2_with (go_at_call 43; (with_reducible refine (swap_at hR1.hp q mm _ _ rfl rfl hql hml).mono ?_); rintro e w2 ⟨rfl, hp2, hg2⟩)
            go_roundw
            case rel => exact ⟨mm, swapL l' q mm, rfl, .inl (by rw [length_swapL]; exact hml), hU.out.step hm0 hml hmp hdone.out HS.out.le, hR1.swap hql hml hp2 hg2⟩
            case measure => simp [intOf]; omega
end Go.Proofs.Ythmblgfcjbiomaa.Hp
